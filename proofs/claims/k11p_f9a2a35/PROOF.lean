import PyProof.Rows.All
import Wide.All
import OpenK.AllK
import Wide.FinOn
import Lean
import PyProof.EqAt
import PyProof.EqKinds
import PyProof.TupleCall
import PyProof.NeKinds
import PyProof.StrLawsTight
import PyProof.Conv_int
import PyProof.StrLawsRepr
import PyProof.ReprStr
import KE.KSortTup
import KE.KRevSl
import PyProof.DictIter
import PyProof.DictValues
import PyProof.DictTruth
import PySem.Challenge.RW_haltline_k11_whole_turned_and_doubled
set_option Elab.async false
set_option linter.all false
set_option maxRecDepth 100000
set_option bootstrap.genMatcherCode false
set_option genSizeOf false
set_option compiler.extract_closed false
section
variable{P:Prop}{T0 T1 T2 T3 T4 T5 T6 T7 T8:Type}{A0 A1 A2 A3 A4 A5 A6 A7 A8 A9:Prop}{B0 B1 B2 B3 B4 B5 B6 B7 B8 B9:T0→Prop}{C0 C1 C2 C3 C4 C5 C6 C7 C8 C9:T0→T1→Prop}{D0 D1 D2 D3 D4 D5 D6 D7 D8 D9:T0→T1→T2→Prop}{E0 E1 E2 E3 E4 E5 E6 E7 E8 E9:T0→T1→T2→T3→Prop}{F0 F1 F2 F3 F4 F5 F6 F7 F8 F9:T0→T1→T2→T3→T4→Prop}{G0 G1 G2 G3 G4 G5 G6 G7 G8 G9:T0→T1→T2→T3→T4→T5→Prop}{H0 H1 H2 H3 H4 H5 H6 H7 H8 H9:T0→T1→T2→T3→T4→T5→T6→Prop}{I0 I1 I2 I3 I4 I5 I6 I7 I8 I9:T0→T1→T2→T3→T4→T5→T6→T7→Prop}{J0 J1 J2 J3 J4 J5 J6 J7 J8 J9:T0→T1→T2→T3→T4→T5→T6→T7→T8→Prop}
theorem bp (H:∃a b,C0 a b∧C1 a b∧C2 a b)(K:∀a b,C0 a b→C1 a b→C2 a b→P):P:=by obtain ⟨a,b,c,d,e⟩:=H;exact K a b c d e
theorem cw (H:∃a,B0 a∧B1 a∧B2 a)(K:∀a,B0 a→B1 a→B2 a→P):P:=by obtain ⟨a,b,c,d⟩:=H;exact K a b c d
theorem du (a b)(c:C0 a b)(d:C1 a b)(e:C2 a b):∃a b,C0 a b∧C1 a b∧C2 a b:=⟨a,b,c,d,e⟩
theorem ik (a)(b:B0 a)(c:B1 a)(d:B2 a):∃a,B0 a∧B1 a∧B2 a:=⟨a,b,c,d⟩
theorem jd (H:∃a b c,D0 a b c∧D1 a b c∧D2 a b c∧D3 a b c)(K:∀a b c,D0 a b c→D1 a b c→D2 a b c→D3 a b c→P):P:=by obtain ⟨a,b,c,d,e,f,g⟩:=H;exact K a b c d e f g
theorem jh (a b c)(d:D0 a b c)(e:D1 a b c)(f:D2 a b c)(g:D3 a b c):∃a b c,D0 a b c∧D1 a b c∧D2 a b c∧D3 a b c:=⟨a,b,c,d,e,f,g⟩
theorem lh (H:∃a b,C0 a b∧C1 a b)(K:∀a b,C0 a b→C1 a b→P):P:=by obtain ⟨a,b,c,d⟩:=H;exact K a b c d
theorem nZ (H:∃a b,C0 a b∧C1 a b∧C2 a b∧C3 a b)(K:∀a b,C0 a b→C1 a b→C2 a b→C3 a b→P):P:=by obtain ⟨a,b,c,d,e,f⟩:=H;exact K a b c d e f
theorem o_ (H:∃a b c d,E0 a b c d∧E1 a b c d∧E2 a b c d∧E3 a b c d)(K:∀a b c d,E0 a b c d→E1 a b c d→E2 a b c d→E3 a b c d→P):P:=by obtain ⟨a,b,c,d,e,f,g,h⟩:=H;exact K a b c d e f g h
theorem oA (a b c)(d:D0 a b c)(e:D1 a b c)(f:D2 a b c)(g:D3 a b c)(h:D4 a b c):∃a b c,D0 a b c∧D1 a b c∧D2 a b c∧D3 a b c∧D4 a b c:=⟨a,b,c,d,e,f,g,h⟩
theorem iV (H:∃a b c,D0 a b c∧D1 a b c∧D2 a b c∧D3 a b c∧D4 a b c)(K:∀a b c,D0 a b c→D1 a b c→D2 a b c→D3 a b c→D4 a b c→P):P:=by obtain ⟨a,b,c,d,e,f,g,h⟩:=H;exact K a b c d e f g h
theorem kQ (a b)(c:C0 a b)(d:C1 a b):∃a b,C0 a b∧C1 a b:=⟨a,b,c,d⟩
theorem kR (a b)(c:C0 a b)(d:C1 a b)(e:C2 a b)(f:C3 a b):∃a b,C0 a b∧C1 a b∧C2 a b∧C3 a b:=⟨a,b,c,d,e,f⟩
theorem mL (c:A0)(a b)(d:C0 a b)(e:C1 a b):A0∧∃a b,C0 a b∧C1 a b:=⟨c,a,b,d,e⟩
theorem mM (b:A0)(a)(c:B0 a)(d:B1 a):A0∧∃a,B0 a∧B1 a:=⟨b,a,c,d⟩
theorem mN (a b c d)(e:E0 a b c d)(f:E1 a b c d)(g:E2 a b c d)(h:E3 a b c d):∃a b c d,E0 a b c d∧E1 a b c d∧E2 a b c d∧E3 a b c d:=⟨a,b,c,d,e,f,g,h⟩
theorem nW (H:A0∧A1∧A2∧A3∧A4∧A5)(K:A0→A1→A2→A3→A4→A5→P):P:=by obtain ⟨a,b,c,d,e,f⟩:=H;exact K a b c d e f
theorem nX (H:∃a b c,D0 a b c∧D1 a b c∧D2 a b c)(K:∀a b c,D0 a b c→D1 a b c→D2 a b c→P):P:=by obtain ⟨a,b,c,d,e,f⟩:=H;exact K a b c d e f
theorem nY (H:A0∧∃a b,C0 a b∧C1 a b∧C2 a b)(K:A0→∀a b,C0 a b→C1 a b→C2 a b→P):P:=by obtain ⟨c,a,b,d,e,f⟩:=H;exact K c a b d e f
theorem nH (a:A0)(b:A1)(c:A2)(d:A3):A0∧A1∧A2∧A3:=⟨a,b,c,d⟩
theorem qx (H:A0∧A1∧A2∧A3∧A4)(K:A0→A1→A2→A3→A4→P):P:=by obtain ⟨a,b,c,d,e⟩:=H;exact K a b c d e
theorem r9 (H:A0∧∃a,B0 a∧B1 a)(K:A0→∀a,B0 a→B1 a→P):P:=by obtain ⟨b,a,c,d⟩:=H;exact K b a c d
theorem r_ (H:A0∧A1∧A2∧A3)(K:A0→A1→A2→A3→P):P:=by obtain ⟨a,b,c,d⟩:=H;exact K a b c d
theorem tX (H:A0∧A1∧∃a,B0 a∧∃b c d,E0 a b c d∧E1 a b c d)(K:A0→A1→∀a,B0 a→∀b c d,E0 a b c d→E1 a b c d→P):P:=by obtain ⟨e,f,a,g,b,c,d,h,i⟩:=H;exact K e f a g b c d h i
theorem sJ (a:A0)(b:A1)(c:A2)(d:A3)(e:A4):A0∧A1∧A2∧A3∧A4:=⟨a,b,c,d,e⟩
theorem sK (a b)(c:C0 a b)(d:C1 a b)(e:C2 a b)(f:C3 a b)(g:C4 a b):∃a b,C0 a b∧C1 a b∧C2 a b∧C3 a b∧C4 a b:=⟨a,b,c,d,e,f,g⟩
theorem wo (H:∃a,B0 a∧B1 a∧B2 a∧B3 a∧B4 a)(K:∀a,B0 a→B1 a→B2 a→B3 a→B4 a→P):P:=by obtain ⟨a,b,c,d,e,f⟩:=H;exact K a b c d e f
theorem wq (H:∃a,B0 a∧B1 a∧∃b,C0 a b)(K:∀a,B0 a→B1 a→∀b,C0 a b→P):P:=by obtain ⟨a,c,d,b,e⟩:=H;exact K a c d b e
theorem wt (H:A0∧A1∧∃a,B0 a∧B1 a)(K:A0→A1→∀a,B0 a→B1 a→P):P:=by obtain ⟨b,c,a,d,e⟩:=H;exact K b c a d e
theorem wu (H:∃a b c d,E0 a b c d∧E1 a b c d∧E2 a b c d∧E3 a b c d∧E4 a b c d∧E5 a b c d∧E6 a b c d∧E7 a b c d∧E8 a b c d∧E9 a b c d)(K:∀a b c d,E0 a b c d→E1 a b c d→E2 a b c d→E3 a b c d→E4 a b c d→E5 a b c d→E6 a b c d→E7 a b c d→E8 a b c d→E9 a b c d→P):P:=by obtain ⟨a,b,c,d,e,f,g,h,i,j,k,l,m,n⟩:=H;exact K a b c d e f g h i j k l m n
theorem vJ (a b c)(d:D0 a b c)(e:D1 a b c):∃a b c,D0 a b c∧D1 a b c:=⟨a,b,c,d,e⟩
theorem yK (H:A0∧∃a b,C0 a b∧C1 a b)(K:A0→∀a b,C0 a b→C1 a b→P):P:=by obtain ⟨c,a,b,d,e⟩:=H;exact K c a b d e
theorem yL (H:∃a b c,D0 a b c∧D1 a b c)(K:∀a b c,D0 a b c→D1 a b c→P):P:=by obtain ⟨a,b,c,d,e⟩:=H;exact K a b c d e
theorem xl (a)(d:B0 a)(b c)(e:D0 a b c):∃a,B0 a∧∃b c,D0 a b c:=⟨a,d,b,c,e⟩
theorem AT (H:∃a b c,D0 a b c)(K:∀a b c,D0 a b c→P):P:=by obtain ⟨a,b,c,d⟩:=H;exact K a b c d
theorem AU (H:∃a b c d e f g h i,J0 a b c d e f g h i∧J1 a b c d e f g h i∧J2 a b c d e f g h i)(K:∀a b c d e f g h i,J0 a b c d e f g h i→J1 a b c d e f g h i→J2 a b c d e f g h i→P):P:=by obtain ⟨a,b,c,d,e,f,g,h,i,j,k,l⟩:=H;exact K a b c d e f g h i j k l
theorem AV (H:∃a b c d,E0 a b c d)(K:∀a b c d,E0 a b c d→P):P:=by obtain ⟨a,b,c,d,e⟩:=H;exact K a b c d e
theorem AW (H:∃a b c d e f,G0 a b c d e f)(K:∀a b c d e f,G0 a b c d e f→P):P:=by obtain ⟨a,b,c,d,e,f,g⟩:=H;exact K a b c d e f g
theorem zF (c:A0)(a b)(d:C0 a b)(e:C1 a b)(f:C2 a b):A0∧∃a b,C0 a b∧C1 a b∧C2 a b:=⟨c,a,b,d,e,f⟩
theorem zG (a b c d)(e:E0 a b c d)(f:E1 a b c d)(g:E2 a b c d)(h:E3 a b c d)(i:E4 a b c d):∃a b c d,E0 a b c d∧E1 a b c d∧E2 a b c d∧E3 a b c d∧E4 a b c d:=⟨a,b,c,d,e,f,g,h,i⟩
theorem zH (a)(b:B0 a)(c:B1 a)(d:B2 a)(e:B3 a):∃a,B0 a∧B1 a∧B2 a∧B3 a:=⟨a,b,c,d,e⟩
theorem zI (a b c d)(e:E0 a b c d)(f:E1 a b c d)(g:E2 a b c d)(h:E3 a b c d)(i:E4 a b c d)(j:E5 a b c d):∃a b c d,E0 a b c d∧E1 a b c d∧E2 a b c d∧E3 a b c d∧E4 a b c d∧E5 a b c d:=⟨a,b,c,d,e,f,g,h,i,j⟩
theorem zJ (a b c d e f)(g:G0 a b c d e f):∃a b c d e f,G0 a b c d e f:=⟨a,b,c,d,e,f,g⟩
theorem DA (H:∃a b c d,E0 a b c d∧E1 a b c d)(K:∀a b c d,E0 a b c d→E1 a b c d→P):P:=by obtain ⟨a,b,c,d,e,f⟩:=H;exact K a b c d e f
theorem DB (H:∃a b c d,E0 a b c d∧E1 a b c d∧E2 a b c d∧E3 a b c d∧E4 a b c d)(K:∀a b c d,E0 a b c d→E1 a b c d→E2 a b c d→E3 a b c d→E4 a b c d→P):P:=by obtain ⟨a,b,c,d,e,f,g,h,i⟩:=H;exact K a b c d e f g h i
theorem DC (H:A0∧A1∧∃a,B0 a∧∃b c d,E0 a b c d∧E1 a b c d∧E2 a b c d∧E3 a b c d∧E4 a b c d)(K:A0→A1→∀a,B0 a→∀b c d,E0 a b c d→E1 a b c d→E2 a b c d→E3 a b c d→E4 a b c d→P):P:=by obtain ⟨e,f,a,g,b,c,d,h,i,j,k,l⟩:=H;exact K e f a g b c d h i j k l
theorem DE (H:∃a b,C0 a b∧C1 a b∧C2 a b∧C3 a b∧C4 a b)(K:∀a b,C0 a b→C1 a b→C2 a b→C3 a b→C4 a b→P):P:=by obtain ⟨a,b,c,d,e,f,g⟩:=H;exact K a b c d e f g
theorem DF (H:∃a b c d e,F0 a b c d e∧F1 a b c d e∧F2 a b c d e∧F3 a b c d e∧F4 a b c d e∧F5 a b c d e)(K:∀a b c d e,F0 a b c d e→F1 a b c d e→F2 a b c d e→F3 a b c d e→F4 a b c d e→F5 a b c d e→P):P:=by obtain ⟨a,b,c,d,e,f,g,h,i,j,k⟩:=H;exact K a b c d e f g h i j k
theorem DG (H:∃a b,C0 a b∧C1 a b∧C2 a b∧C3 a b∧C4 a b∧C5 a b)(K:∀a b,C0 a b→C1 a b→C2 a b→C3 a b→C4 a b→C5 a b→P):P:=by obtain ⟨a,b,c,d,e,f,g,h⟩:=H;exact K a b c d e f g h
theorem Cq (a b c d e)(f:F0 a b c d e)(g:F1 a b c d e)(h:F2 a b c d e)(i:F3 a b c d e)(j:F4 a b c d e)(k:F5 a b c d e):∃a b c d e,F0 a b c d e∧F1 a b c d e∧F2 a b c d e∧F3 a b c d e∧F4 a b c d e∧F5 a b c d e:=⟨a,b,c,d,e,f,g,h,i,j,k⟩
theorem Cr (a b c d)(e:E0 a b c d):∃a b c d,E0 a b c d:=⟨a,b,c,d,e⟩
theorem FS (H:A0∧A1∧∃a,B0 a∧∃b c d,E0 a b c d∧E1 a b c d∧E2 a b c d)(K:A0→A1→∀a,B0 a→∀b c d,E0 a b c d→E1 a b c d→E2 a b c d→P):P:=by obtain ⟨e,f,a,g,b,c,d,h,i,j⟩:=H;exact K e f a g b c d h i j
theorem FU (H:∃a b c d,E0 a b c d∧E1 a b c d∧E2 a b c d∧E3 a b c d∧E4 a b c d∧E5 a b c d)(K:∀a b c d,E0 a b c d→E1 a b c d→E2 a b c d→E3 a b c d→E4 a b c d→E5 a b c d→P):P:=by obtain ⟨a,b,c,d,e,f,g,h,i,j⟩:=H;exact K a b c d e f g h i j
theorem FV (H:∃a b,C0 a b∧C1 a b∧C2 a b∧∃c d,E0 a b c d∧∃e f,G0 a b c d e f∧G1 a b c d e f∧G2 a b c d e f)(K:∀a b,C0 a b→C1 a b→C2 a b→∀c d,E0 a b c d→∀e f,G0 a b c d e f→G1 a b c d e f→G2 a b c d e f→P):P:=by obtain ⟨a,b,g,h,i,c,d,j,e,f,k,l,m⟩:=H;exact K a b g h i c d j e f k l m
theorem FW (H:∃a b c,D0 a b c∧D1 a b c∧D2 a b c∧D3 a b c∧D4 a b c∧D5 a b c∧D6 a b c∧D7 a b c)(K:∀a b c,D0 a b c→D1 a b c→D2 a b c→D3 a b c→D4 a b c→D5 a b c→D6 a b c→D7 a b c→P):P:=by obtain ⟨a,b,c,d,e,f,g,h,i,j,k⟩:=H;exact K a b c d e f g h i j k
theorem FX (H:∃a,B0 a∧B1 a∧B2 a∧B3 a)(K:∀a,B0 a→B1 a→B2 a→B3 a→P):P:=by obtain ⟨a,b,c,d,e⟩:=H;exact K a b c d e
theorem EM (e:A0)(f:A1)(a)(g:B0 a)(b c d)(h:E0 a b c d)(i:E1 a b c d):A0∧A1∧∃a,B0 a∧∃b c d,E0 a b c d∧E1 a b c d:=⟨e,f,a,g,b,c,d,h,i⟩
theorem EN (a b c)(d:D0 a b c):∃a b c,D0 a b c:=⟨a,b,c,d⟩
theorem EO (a)(c:B0 a)(d:B1 a)(b)(e:C0 a b):∃a,B0 a∧B1 a∧∃b,C0 a b:=⟨a,c,d,b,e⟩
theorem EQ (a:A0)(b:A1)(c:A2)(d:A3)(e:A4)(f:A5):A0∧A1∧A2∧A3∧A4∧A5:=⟨a,b,c,d,e,f⟩
theorem ER (a)(b:B0 a)(c:B1 a)(d:B2 a)(e:B3 a)(f:B4 a):∃a,B0 a∧B1 a∧B2 a∧B3 a∧B4 a:=⟨a,b,c,d,e,f⟩
theorem ES (b:A0)(c:A1)(d:A2)(e:A3)(a)(f:B0 a)(g:B1 a)(h:B2 a):A0∧A1∧A2∧A3∧∃a,B0 a∧B1 a∧B2 a:=⟨b,c,d,e,a,f,g,h⟩
theorem ET (e:A0)(f:A1)(a b c d)(g:E0 a b c d)(h:E1 a b c d)(i:E2 a b c d)(j:E3 a b c d)(k:E4 a b c d):A0∧A1∧∃a b c d,E0 a b c d∧E1 a b c d∧E2 a b c d∧E3 a b c d∧E4 a b c d:=⟨e,f,a,b,c,d,g,h,i,j,k⟩
theorem EU (a b)(c:C0 a b)(d:C1 a b)(e:C2 a b)(f:C3 a b)(g:C4 a b)(h:C5 a b):∃a b,C0 a b∧C1 a b∧C2 a b∧C3 a b∧C4 a b∧C5 a b:=⟨a,b,c,d,e,f,g,h⟩
theorem EV (a b c)(d:D0 a b c)(e:D1 a b c)(f:D2 a b c)(g:D3 a b c)(h:D4 a b c)(i:D5 a b c):∃a b c,D0 a b c∧D1 a b c∧D2 a b c∧D3 a b c∧D4 a b c∧D5 a b c:=⟨a,b,c,d,e,f,g,h,i⟩
theorem EW (e:A0)(f:A1)(a)(g:B0 a)(b c d)(h:E0 a b c d)(i:E1 a b c d)(j:E2 a b c d)(k:E3 a b c d)(l:E4 a b c d):A0∧A1∧∃a,B0 a∧∃b c d,E0 a b c d∧E1 a b c d∧E2 a b c d∧E3 a b c d∧E4 a b c d:=⟨e,f,a,g,b,c,d,h,i,j,k,l⟩
theorem EX (a)(f:B0 a)(b c d e)(g:F0 a b c d e)(h:F1 a b c d e)(i:F2 a b c d e)(j:F3 a b c d e)(k:F4 a b c d e)(l:F5 a b c d e)(m:F6 a b c d e):∃a,B0 a∧∃b c d e,F0 a b c d e∧F1 a b c d e∧F2 a b c d e∧F3 a b c d e∧F4 a b c d e∧F5 a b c d e∧F6 a b c d e:=⟨a,f,b,c,d,e,g,h,i,j,k,l,m⟩
theorem EY (a b)(e:C0 a b)(f:C1 a b)(g:C2 a b)(c d)(h:E0 a b c d)(i:E1 a b c d)(j:E2 a b c d):∃a b,C0 a b∧C1 a b∧C2 a b∧∃c d,E0 a b c d∧E1 a b c d∧E2 a b c d:=⟨a,b,e,f,g,c,d,h,i,j⟩
theorem EZ (a b)(e:C0 a b)(f:C1 a b)(c d)(g:E0 a b c d)(h:E1 a b c d)(i:E2 a b c d):∃a b,C0 a b∧C1 a b∧∃c d,E0 a b c d∧E1 a b c d∧E2 a b c d:=⟨a,b,e,f,c,d,g,h,i⟩
theorem E_ (a)(g:B0 a)(b c d e f)(h:G0 a b c d e f)(i:G1 a b c d e f)(j:G2 a b c d e f)(k:G3 a b c d e f):∃a,B0 a∧∃b c d e f,G0 a b c d e f∧G1 a b c d e f∧G2 a b c d e f∧G3 a b c d e f:=⟨a,g,b,c,d,e,f,h,i,j,k⟩
theorem Fc (d:A0)(a)(e:B0 a)(b)(f:C0 a b)(g:C1 a b)(c)(h:D0 a b c):A0∧∃a,B0 a∧∃b,C0 a b∧C1 a b∧∃c,D0 a b c:=⟨d,a,e,b,f,g,c,h⟩
theorem Fd (a b)(d:C0 a b)(e:C1 a b)(f:C2 a b)(c)(g:D0 a b c):∃a b,C0 a b∧C1 a b∧C2 a b∧∃c,D0 a b c:=⟨a,b,d,e,f,c,g⟩
theorem Hi (H:A0∧∃a,B0 a∧∃b,C0 a b∧C1 a b)(K:A0→∀a,B0 a→∀b,C0 a b→C1 a b→P):P:=by obtain ⟨c,a,d,b,e,f⟩:=H;exact K c a d b e f
theorem Hj (H:A0∧A1∧A2∧A3∧∃a,B0 a∧B1 a)(K:A0→A1→A2→A3→∀a,B0 a→B1 a→P):P:=by obtain ⟨b,c,d,e,a,f,g⟩:=H;exact K b c d e a f g
theorem Hk (H:A0∧A1∧A2∧A3∧∃a,B0 a∧B1 a∧B2 a)(K:A0→A1→A2→A3→∀a,B0 a→B1 a→B2 a→P):P:=by obtain ⟨b,c,d,e,a,f,g,h⟩:=H;exact K b c d e a f g h
theorem Hl (H:∃a b c d,E0 a b c d∧E1 a b c d∧E2 a b c d)(K:∀a b c d,E0 a b c d→E1 a b c d→E2 a b c d→P):P:=by obtain ⟨a,b,c,d,e,f,g⟩:=H;exact K a b c d e f g
theorem Hm (H:∃a b c d e,F0 a b c d e∧F1 a b c d e∧F2 a b c d e∧F3 a b c d e∧F4 a b c d e∧F5 a b c d e∧F6 a b c d e∧F7 a b c d e)(K:∀a b c d e,F0 a b c d e→F1 a b c d e→F2 a b c d e→F3 a b c d e→F4 a b c d e→F5 a b c d e→F6 a b c d e→F7 a b c d e→P):P:=by obtain ⟨a,b,c,d,e,f,g,h,i,j,k,l,m⟩:=H;exact K a b c d e f g h i j k l m
theorem Hn (H:∃a b c,D0 a b c∧D1 a b c∧D2 a b c∧D3 a b c∧D4 a b c∧D5 a b c∧D6 a b c)(K:∀a b c,D0 a b c→D1 a b c→D2 a b c→D3 a b c→D4 a b c→D5 a b c→D6 a b c→P):P:=by obtain ⟨a,b,c,d,e,f,g,h,i,j⟩:=H;exact K a b c d e f g h i j
theorem Ho (H:A0∧∃a,B0 a∧∃b,C0 a b∧C1 a b∧∃c,D0 a b c)(K:A0→∀a,B0 a→∀b,C0 a b→C1 a b→∀c,D0 a b c→P):P:=by obtain ⟨d,a,e,b,f,g,c,h⟩:=H;exact K d a e b f g c h
theorem Hq (H:∃a b c,D0 a b c∧D1 a b c∧D2 a b c∧D3 a b c∧D4 a b c∧D5 a b c)(K:∀a b c,D0 a b c→D1 a b c→D2 a b c→D3 a b c→D4 a b c→D5 a b c→P):P:=by obtain ⟨a,b,c,d,e,f,g,h,i⟩:=H;exact K a b c d e f g h i
theorem Hr (H:∃a b c d,E0 a b c d∧E1 a b c d∧E2 a b c d∧E3 a b c d∧E4 a b c d∧E5 a b c d∧E6 a b c d)(K:∀a b c d,E0 a b c d→E1 a b c d→E2 a b c d→E3 a b c d→E4 a b c d→E5 a b c d→E6 a b c d→P):P:=by obtain ⟨a,b,c,d,e,f,g,h,i,j,k⟩:=H;exact K a b c d e f g h i j k
theorem Hs (H:∃a b c d e,F0 a b c d e∧F1 a b c d e∧F2 a b c d e∧F3 a b c d e∧F4 a b c d e)(K:∀a b c d e,F0 a b c d e→F1 a b c d e→F2 a b c d e→F3 a b c d e→F4 a b c d e→P):P:=by obtain ⟨a,b,c,d,e,f,g,h,i,j⟩:=H;exact K a b c d e f g h i j
theorem Ht (H:∃a b c d e,F0 a b c d e∧F1 a b c d e∧F2 a b c d e∧F3 a b c d e)(K:∀a b c d e,F0 a b c d e→F1 a b c d e→F2 a b c d e→F3 a b c d e→P):P:=by obtain ⟨a,b,c,d,e,f,g,h,i⟩:=H;exact K a b c d e f g h i
theorem Hu (H:∃a b c d e f,G0 a b c d e f∧G1 a b c d e f∧G2 a b c d e f∧G3 a b c d e f∧G4 a b c d e f∧G5 a b c d e f∧G6 a b c d e f∧G7 a b c d e f)(K:∀a b c d e f,G0 a b c d e f→G1 a b c d e f→G2 a b c d e f→G3 a b c d e f→G4 a b c d e f→G5 a b c d e f→G6 a b c d e f→G7 a b c d e f→P):P:=by obtain ⟨a,b,c,d,e,f,g,h,i,j,k,l,m,n⟩:=H;exact K a b c d e f g h i j k l m n
theorem Hv (H:A0∧∃a,B0 a∧B1 a∧B2 a)(K:A0→∀a,B0 a→B1 a→B2 a→P):P:=by obtain ⟨b,a,c,d,e⟩:=H;exact K b a c d e
theorem Hw (H:A0∧A1∧∃a b c,D0 a b c∧D1 a b c∧D2 a b c∧D3 a b c)(K:A0→A1→∀a b c,D0 a b c→D1 a b c→D2 a b c→D3 a b c→P):P:=by obtain ⟨d,e,a,b,c,f,g,h,i⟩:=H;exact K d e a b c f g h i
theorem Hx (H:∃a,B0 a∧∃b,C0 a b∧C1 a b)(K:∀a,B0 a→∀b,C0 a b→C1 a b→P):P:=by obtain ⟨a,c,b,d,e⟩:=H;exact K a c b d e
theorem Hy (H:A0∧A1∧A2∧∃a,B0 a∧∃b c d,E0 a b c d∧E1 a b c d∧E2 a b c d∧E3 a b c d∧E4 a b c d)(K:A0→A1→A2→∀a,B0 a→∀b c d,E0 a b c d→E1 a b c d→E2 a b c d→E3 a b c d→E4 a b c d→P):P:=by obtain ⟨e,f,g,a,h,b,c,d,i,j,k,l,m⟩:=H;exact K e f g a h b c d i j k l m
theorem Hz (H:∃a,B0 a∧∃b c,D0 a b c∧D1 a b c∧D2 a b c)(K:∀a,B0 a→∀b c,D0 a b c→D1 a b c→D2 a b c→P):P:=by obtain ⟨a,d,b,c,e,f,g⟩:=H;exact K a d b c e f g
theorem GB (c:A0)(a)(d:B0 a)(b)(e:C0 a b)(f:C1 a b):A0∧∃a,B0 a∧∃b,C0 a b∧C1 a b:=⟨c,a,d,b,e,f⟩
theorem GE (a b c d)(e:E0 a b c d)(f:E1 a b c d):∃a b c d,E0 a b c d∧E1 a b c d:=⟨a,b,c,d,e,f⟩
theorem GF (b:A0)(c:A1)(d:A2)(e:A3)(a)(f:B0 a)(g:B1 a):A0∧A1∧A2∧A3∧∃a,B0 a∧B1 a:=⟨b,c,d,e,a,f,g⟩
theorem GG (a b c)(d:D0 a b c)(e:D1 a b c)(f:D2 a b c):∃a b c,D0 a b c∧D1 a b c∧D2 a b c:=⟨a,b,c,d,e,f⟩
theorem GH (c:A0)(d:A1)(a b)(e:C0 a b)(f:C1 a b):A0∧A1∧∃a b,C0 a b∧C1 a b:=⟨c,d,a,b,e,f⟩
theorem GI (a b c d e f g h i)(j:J0 a b c d e f g h i)(k:J1 a b c d e f g h i)(l:J2 a b c d e f g h i):∃a b c d e f g h i,J0 a b c d e f g h i∧J1 a b c d e f g h i∧J2 a b c d e f g h i:=⟨a,b,c,d,e,f,g,h,i,j,k,l⟩
theorem GJ (e:A0)(f:A1)(a)(g:B0 a)(b c d)(h:E0 a b c d)(i:E1 a b c d)(j:E2 a b c d)(k:E3 a b c d)(l:E4 a b c d)(m:E5 a b c d):A0∧A1∧∃a,B0 a∧∃b c d,E0 a b c d∧E1 a b c d∧E2 a b c d∧E3 a b c d∧E4 a b c d∧E5 a b c d:=⟨e,f,a,g,b,c,d,h,i,j,k,l,m⟩
theorem GK (b:A0)(c:A1)(a)(d:B0 a)(e:B1 a):A0∧A1∧∃a,B0 a∧B1 a:=⟨b,c,a,d,e⟩
theorem GM (a b c d)(e:E0 a b c d)(f:E1 a b c d)(g:E2 a b c d)(h:E3 a b c d)(i:E4 a b c d)(j:E5 a b c d)(k:E6 a b c d):∃a b c d,E0 a b c d∧E1 a b c d∧E2 a b c d∧E3 a b c d∧E4 a b c d∧E5 a b c d∧E6 a b c d:=⟨a,b,c,d,e,f,g,h,i,j,k⟩
theorem GN (a)(c:B0 a)(b)(d:C0 a b)(e:C1 a b):∃a,B0 a∧∃b,C0 a b∧C1 a b:=⟨a,c,b,d,e⟩
theorem GO (a b c d e)(h:F0 a b c d e)(i:F1 a b c d e)(j:F2 a b c d e)(k:F3 a b c d e)(l:F4 a b c d e)(f g)(m:H0 a b c d e f g)(n:H1 a b c d e f g)(o:H2 a b c d e f g):∃a b c d e,F0 a b c d e∧F1 a b c d e∧F2 a b c d e∧F3 a b c d e∧F4 a b c d e∧∃f g,H0 a b c d e f g∧H1 a b c d e f g∧H2 a b c d e f g:=⟨a,b,c,d,e,h,i,j,k,l,f,g,m,n,o⟩
theorem Ek (a b c d e)(f:F0 a b c d e)(g:F1 a b c d e)(h:F2 a b c d e)(i:F3 a b c d e)(j:F4 a b c d e):∃a b c d e,F0 a b c d e∧F1 a b c d e∧F2 a b c d e∧F3 a b c d e∧F4 a b c d e:=⟨a,b,c,d,e,f,g,h,i,j⟩
theorem El (a b c d e)(f:F0 a b c d e)(g:F1 a b c d e)(h:F2 a b c d e)(i:F3 a b c d e)(j:F4 a b c d e)(k:F5 a b c d e)(l:F6 a b c d e):∃a b c d e,F0 a b c d e∧F1 a b c d e∧F2 a b c d e∧F3 a b c d e∧F4 a b c d e∧F5 a b c d e∧F6 a b c d e:=⟨a,b,c,d,e,f,g,h,i,j,k,l⟩
theorem Em (a b c)(d:D0 a b c)(e:D1 a b c)(f:D2 a b c)(g:D3 a b c)(h:D4 a b c)(i:D5 a b c)(j:D6 a b c):∃a b c,D0 a b c∧D1 a b c∧D2 a b c∧D3 a b c∧D4 a b c∧D5 a b c∧D6 a b c:=⟨a,b,c,d,e,f,g,h,i,j⟩
theorem En (a b c d e)(f:F0 a b c d e)(g:F1 a b c d e)(h:F2 a b c d e)(i:F3 a b c d e):∃a b c d e,F0 a b c d e∧F1 a b c d e∧F2 a b c d e∧F3 a b c d e:=⟨a,b,c,d,e,f,g,h,i⟩
theorem Eo (a b c d e f)(g:G0 a b c d e f)(h:G1 a b c d e f)(i:G2 a b c d e f)(j:G3 a b c d e f)(k:G4 a b c d e f)(l:G5 a b c d e f)(m:G6 a b c d e f)(n:G7 a b c d e f):∃a b c d e f,G0 a b c d e f∧G1 a b c d e f∧G2 a b c d e f∧G3 a b c d e f∧G4 a b c d e f∧G5 a b c d e f∧G6 a b c d e f∧G7 a b c d e f:=⟨a,b,c,d,e,f,g,h,i,j,k,l,m,n⟩
theorem Ep (a)(h:B0 a)(b c d e f g)(i:H0 a b c d e f g)(j:H1 a b c d e f g)(k:H2 a b c d e f g)(l:H3 a b c d e f g)(m:H4 a b c d e f g)(n:H5 a b c d e f g)(o:H6 a b c d e f g)(p:H7 a b c d e f g):∃a,B0 a∧∃b c d e f g,H0 a b c d e f g∧H1 a b c d e f g∧H2 a b c d e f g∧H3 a b c d e f g∧H4 a b c d e f g∧H5 a b c d e f g∧H6 a b c d e f g∧H7 a b c d e f g:=⟨a,h,b,c,d,e,f,g,i,j,k,l,m,n,o,p⟩
theorem Er (a b)(g:C0 a b)(h:C1 a b)(i:C2 a b)(c d)(j:E0 a b c d)(e f)(k:G0 a b c d e f)(l:G1 a b c d e f)(m:G2 a b c d e f)(n:G3 a b c d e f)(o:G4 a b c d e f):∃a b,C0 a b∧C1 a b∧C2 a b∧∃c d,E0 a b c d∧∃e f,G0 a b c d e f∧G1 a b c d e f∧G2 a b c d e f∧G3 a b c d e f∧G4 a b c d e f:=⟨a,b,g,h,i,c,d,j,e,f,k,l,m,n,o⟩
theorem Es (a)(e:B0 a)(f:B1 a)(b c d)(g:E0 a b c d)(h:E1 a b c d)(i:E2 a b c d)(j:E3 a b c d):∃a,B0 a∧B1 a∧∃b c d,E0 a b c d∧E1 a b c d∧E2 a b c d∧E3 a b c d:=⟨a,e,f,b,c,d,g,h,i,j⟩
theorem Et (a)(e:B0 a)(f:B1 a)(g:B2 a)(b c d)(h:E0 a b c d)(i:E1 a b c d)(j:E2 a b c d)(k:E3 a b c d):∃a,B0 a∧B1 a∧B2 a∧∃b c d,E0 a b c d∧E1 a b c d∧E2 a b c d∧E3 a b c d:=⟨a,e,f,g,b,c,d,h,i,j,k⟩
theorem Eu (a b)(g:C0 a b)(h:C1 a b)(i:C2 a b)(c d)(j:E0 a b c d)(e f)(k:G0 a b c d e f)(l:G1 a b c d e f)(m:G2 a b c d e f):∃a b,C0 a b∧C1 a b∧C2 a b∧∃c d,E0 a b c d∧∃e f,G0 a b c d e f∧G1 a b c d e f∧G2 a b c d e f:=⟨a,b,g,h,i,c,d,j,e,f,k,l,m⟩
theorem Ev (a b c)(d:D0 a b c)(e:D1 a b c)(f:D2 a b c)(g:D3 a b c)(h:D4 a b c)(i:D5 a b c)(j:D6 a b c)(k:D7 a b c):∃a b c,D0 a b c∧D1 a b c∧D2 a b c∧D3 a b c∧D4 a b c∧D5 a b c∧D6 a b c∧D7 a b c:=⟨a,b,c,d,e,f,g,h,i,j,k⟩
theorem Ew (a b c)(i:D0 a b c)(j:D1 a b c)(k:D2 a b c)(l:D3 a b c)(d e f g h)(m:I0 a b c d e f g h)(n:I1 a b c d e f g h)(o:I2 a b c d e f g h)(p:I3 a b c d e f g h)(q:I4 a b c d e f g h)(r:I5 a b c d e f g h)(s:I6 a b c d e f g h)(t:I7 a b c d e f g h)(u:I8 a b c d e f g h):∃a b c,D0 a b c∧D1 a b c∧D2 a b c∧D3 a b c∧∃d e f g h,I0 a b c d e f g h∧I1 a b c d e f g h∧I2 a b c d e f g h∧I3 a b c d e f g h∧I4 a b c d e f g h∧I5 a b c d e f g h∧I6 a b c d e f g h∧I7 a b c d e f g h∧I8 a b c d e f g h:=⟨a,b,c,i,j,k,l,d,e,f,g,h,m,n,o,p,q,r,s,t,u⟩
theorem Ex (a b c d)(e:E0 a b c d)(f:E1 a b c d)(g:E2 a b c d)(h:E3 a b c d)(i:E4 a b c d)(j:E5 a b c d)(k:E6 a b c d)(l:E7 a b c d)(m:E8 a b c d)(n:E9 a b c d):∃a b c d,E0 a b c d∧E1 a b c d∧E2 a b c d∧E3 a b c d∧E4 a b c d∧E5 a b c d∧E6 a b c d∧E7 a b c d∧E8 a b c d∧E9 a b c d:=⟨a,b,c,d,e,f,g,h,i,j,k,l,m,n⟩
theorem Ey (a b c d)(h:E0 a b c d)(i:E1 a b c d)(j:E2 a b c d)(k:E3 a b c d)(l:E4 a b c d)(e f g)(m:H0 a b c d e f g)(n:H1 a b c d e f g)(o:H2 a b c d e f g)(p:H3 a b c d e f g):∃a b c d,E0 a b c d∧E1 a b c d∧E2 a b c d∧E3 a b c d∧E4 a b c d∧∃e f g,H0 a b c d e f g∧H1 a b c d e f g∧H2 a b c d e f g∧H3 a b c d e f g:=⟨a,b,c,d,h,i,j,k,l,e,f,g,m,n,o,p⟩
theorem Ez (a b)(f:C0 a b)(g:C1 a b)(c d e)(h:F0 a b c d e)(i:F1 a b c d e)(j:F2 a b c d e)(k:F3 a b c d e):∃a b,C0 a b∧C1 a b∧∃c d e,F0 a b c d e∧F1 a b c d e∧F2 a b c d e∧F3 a b c d e:=⟨a,b,f,g,c,d,e,h,i,j,k⟩
theorem EA (a b c d e)(h:F0 a b c d e)(i:F1 a b c d e)(j:F2 a b c d e)(k:F3 a b c d e)(l:F4 a b c d e)(m:F5 a b c d e)(n:F6 a b c d e)(o:F7 a b c d e)(f g)(p:H0 a b c d e f g)(q:H1 a b c d e f g)(r:H2 a b c d e f g):∃a b c d e,F0 a b c d e∧F1 a b c d e∧F2 a b c d e∧F3 a b c d e∧F4 a b c d e∧F5 a b c d e∧F6 a b c d e∧F7 a b c d e∧∃f g,H0 a b c d e f g∧H1 a b c d e f g∧H2 a b c d e f g:=⟨a,b,c,d,e,h,i,j,k,l,m,n,o,f,g,p,q,r⟩
theorem EB (a)(d:B0 a)(b c)(e:D0 a b c)(f:D1 a b c)(g:D2 a b c):∃a,B0 a∧∃b c,D0 a b c∧D1 a b c∧D2 a b c:=⟨a,d,b,c,e,f,g⟩
theorem EC (a b)(d:C0 a b)(c)(e:D0 a b c)(f:D1 a b c)(g:D2 a b c):∃a b,C0 a b∧∃c,D0 a b c∧D1 a b c∧D2 a b c:=⟨a,b,d,c,e,f,g⟩
theorem ED (a)(c:B0 a)(d:B1 a)(b)(e:C0 a b)(f:C1 a b)(g:C2 a b):∃a,B0 a∧B1 a∧∃b,C0 a b∧C1 a b∧C2 a b:=⟨a,c,d,b,e,f,g⟩
theorem EE (a b c d e)(f:F0 a b c d e)(g:F1 a b c d e)(h:F2 a b c d e)(i:F3 a b c d e)(j:F4 a b c d e)(k:F5 a b c d e)(l:F6 a b c d e)(m:F7 a b c d e):∃a b c d e,F0 a b c d e∧F1 a b c d e∧F2 a b c d e∧F3 a b c d e∧F4 a b c d e∧F5 a b c d e∧F6 a b c d e∧F7 a b c d e:=⟨a,b,c,d,e,f,g,h,i,j,k,l,m⟩
theorem EF (a b c)(g:D0 a b c)(h:D1 a b c)(i:D2 a b c)(j:D3 a b c)(d e f)(k:G0 a b c d e f)(l:G1 a b c d e f)(m:G2 a b c d e f)(n:G3 a b c d e f):∃a b c,D0 a b c∧D1 a b c∧D2 a b c∧D3 a b c∧∃d e f,G0 a b c d e f∧G1 a b c d e f∧G2 a b c d e f∧G3 a b c d e f:=⟨a,b,c,g,h,i,j,d,e,f,k,l,m,n⟩
theorem EG (a)(f:B0 a)(g:B1 a)(b)(h:C0 a b)(c d e)(i:F0 a b c d e)(j:F1 a b c d e)(k:F2 a b c d e)(l:F3 a b c d e)(m:F4 a b c d e)(n:F5 a b c d e):∃a,B0 a∧B1 a∧∃b,C0 a b∧∃c d e,F0 a b c d e∧F1 a b c d e∧F2 a b c d e∧F3 a b c d e∧F4 a b c d e∧F5 a b c d e:=⟨a,f,g,b,h,c,d,e,i,j,k,l,m,n⟩
theorem EH (a)(e:B0 a)(b c d)(f:E0 a b c d):∃a,B0 a∧∃b c d,E0 a b c d:=⟨a,e,b,c,d,f⟩
theorem EI (a)(f:B0 a)(b c d e)(g:F0 a b c d e):∃a,B0 a∧∃b c d e,F0 a b c d e:=⟨a,f,b,c,d,e,g⟩
theorem EJ (d:A0)(a b)(e:C0 a b)(f:C1 a b)(c)(g:D0 a b c)(h:D1 a b c)(i:D2 a b c)(j:D3 a b c):A0∧∃a b,C0 a b∧C1 a b∧∃c,D0 a b c∧D1 a b c∧D2 a b c∧D3 a b c:=⟨d,a,b,e,f,c,g,h,i,j⟩
theorem EK (e:A0)(a b)(f:C0 a b)(g:C1 a b)(c d)(h:E0 a b c d)(i:E1 a b c d)(j:E2 a b c d)(k:E3 a b c d)(l:E4 a b c d):A0∧∃a b,C0 a b∧C1 a b∧∃c d,E0 a b c d∧E1 a b c d∧E2 a b c d∧E3 a b c d∧E4 a b c d:=⟨e,a,b,f,g,c,d,h,i,j,k,l⟩
theorem EL (e:A0)(a b)(f:C0 a b)(g:C1 a b)(c d)(h:E0 a b c d)(i:E1 a b c d)(j:E2 a b c d):A0∧∃a b,C0 a b∧C1 a b∧∃c d,E0 a b c d∧E1 a b c d∧E2 a b c d:=⟨e,a,b,f,g,c,d,h,i,j⟩
end
theorem cps {G:Prop}(h:∀ P:Prop,(G→P)→P):G:=h G id
namespace L2
open PySem PySem.Spec PyProof.Rows
theorem fG {α:Type}{l:List α}{i:Nat}{a:α}(h:l[i]?=some a):∃ h:i<l.length,l[i]=a:=List.getElem?_eq_some_iff.mp h
theorem cI {α:Type}{a b:α}{l:List α}(h:a∈l):a∈b::l:=.tail _ h
theorem ij {α:Type}{l:List α}{i:Nat}(h:i<l.length):l[i]?=some l[i]:=List.getElem?_eq_getElem h
noncomputable abbrev bu:=Sum Int Str
noncomputable def oC:bu→Value→Bool
 | .inl k,v=>Value.isInt k v
 | .inr x,v=>Value.isStrOf x v
noncomputable def GQ (w:World):bu→Int
 | .inl k=>hashInt k
 | .inr x=>hashStr w x
theorem bE:∀ {k:bu} {v:Value},oC k v=true→(∃ i t,k=Sum.inl i∧v=Value.int i t)∨(∃ x t,k=Sum.inr x∧v=Value.str x t)
 | .inl i,v,h=>by
  obtain ⟨t,e⟩:=Value.isInt_shape (k:=i) (v:=v) h
  exact .inl (kQ i t rfl e)
 | .inr x,v,h=>by
  obtain ⟨t,e⟩:=Value.isStrOf_shape (x:=x) (v:=v) h
  exact .inr (kQ x t rfl e)
theorem vL (i:Int)(t:Tok):oC (.inl i) (.int i t)=true:=by simp [oC,Value.isInt]
theorem vM (x:Str)(t:Tok):oC (.inr x) (.str x t)=true:=by simp [oC,Value.isStrOf]
theorem Cu (a b:Int):decide ((Sum.inl a:bu)=Sum.inl b)=(a == b):=by
 by_cases e:a=b
 ·subst e; simp
 ·have h:¬ (Sum.inl a:bu)=Sum.inl b:=fun q=>e (Sum.inl.inj q)
  rw [decide_eq_false h]
  exact (beq_eq_false_iff_ne.mpr e).symm
theorem Cy (a b:Str):decide ((Sum.inr a:bu)=Sum.inr b)=decide (a=b):=by
 by_cases e:a=b
 ·subst e; simp
 ·have h:¬ (Sum.inr a:bu)=Sum.inr b:=fun q=>e (Sum.inr.inj q)
  rw [decide_eq_false h,decide_eq_false e]
theorem Cv (a:Int)(b:Str):decide ((Sum.inl a:bu)=Sum.inr b)=false:=decide_eq_false (fun q=>nomatch q)
theorem Cw (a:Str)(b:Int):decide ((Sum.inr a:bu)=Sum.inl b)=false:=decide_eq_false (fun q=>nomatch q)
noncomputable def bU (prog:Program)(w:World):PySem.KeyKind prog w bu where
 is:=oC
 hash:=GQ w
 inj:=fun v a b ha hb=>by
  rcases bE ha with ⟨i,t,rfl,rfl⟩ | ⟨x,t,rfl,rfl⟩
  ·rcases bE hb with ⟨j,u,rfl,e⟩ | ⟨y,u,rfl,e⟩
   ·injection e with e1 _; rw [e1]
   ·exact nomatch e
  ·rcases bE hb with ⟨j,u,rfl,e⟩ | ⟨y,u,rfl,e⟩
   ·exact nomatch e
   ·injection e with e1 _; rw [e1]
 byValue:=fun k v h=>by
  rcases bE h with ⟨i,t,rfl,rfl⟩ | ⟨x,t,rfl,rfl⟩ <;> rfl
 pyHash:=fun hv h=>by
  rcases bE hv with ⟨i,t,rfl,rfl⟩ | ⟨x,t,rfl,rfl⟩
  ·exact wpAny_pyHash_int h
  ·exact wpAny_pyHash_str h
 eqBool:=fun hu hv h=>by
  rcases bE hu with ⟨i,t,rfl,rfl⟩ | ⟨x,t,rfl,rfl⟩
  ·rcases bE hv with ⟨j,u,rfl,rfl⟩ | ⟨y,u,rfl,rfl⟩
   ·rw [Cu] at h; exact wpAny_eqBool_int h
   ·rw [Cv] at h; exact SeqAt.EqAt.int_str i t y u _ _ _ _ h
  ·rcases bE hv with ⟨j,u,rfl,rfl⟩ | ⟨y,u,rfl,rfl⟩
   ·rw [Cw] at h; exact SeqAt.EqAt.str_int x t j u _ _ _ _ h
   ·rw [Cy] at h; exact wpAny_eqBool_str h
 «strs»:=fun k x t v h=>by
  rcases bE h with ⟨i,u,rfl,e⟩ | ⟨y,u,rfl,e⟩
  ·exact nomatch e
  ·injection e with e1 _
   subst e1
   cases v <;> rfl
theorem rh (prog:Program)(w:World)(i:Int)(t:Tok):(bU prog w).is (.inl i) (.int i t)=true:=vL i t
theorem rj (prog:Program)(w:World)(x:Str)(t:Tok):(bU prog w).is (.inr x) (.str x t)=true:=vM x t
inductive V where
 | non | bl (b:Bool) | int (i:Int) | str (x:Str) | byt (b:Array UInt8) | flt (b:UInt64) | ref (a:Addr) | ty (n:String)
 deriving DecidableEq
noncomputable def RelV:V→Value→Prop
 | .non,u=>u=Value.none
 | .bl b,u=>u=Value.bool b
 | .int i,u=>∃ t,u=Value.int i t
 | .str x,u=>∃ t,u=Value.str x t
 | .byt b,u=>∃ t,u=Value.bytes b t
 | .flt b,u=>∃ t,u=Value.float b t
 | .ref a,u=>u=Value.ref a
 | .ty n,u=>u=Value.type n
noncomputable abbrev Vals:List V→List Value→Prop:=Paired RelV
theorem Vals.length {xs:List V}{us:List Value}(r:Vals xs us):xs.length=us.length:=Paired.length r
theorem Vals.get:∀ {xs:List V} {us:List Value} {i:Nat} {x:V},Vals xs us→xs[i]?=some x→∃ u,us[i]?=some u∧RelV x u
 | _,_,_,_,.nil,e=>by simp at e
 | _,_,0,_,.cons r _,e=>by simp at e; subst e; exact ⟨_,rfl,r⟩
 | _,_,i+1,x,.cons _ t,e=>by
  obtain ⟨u,h1,h2⟩:=Vals.get (i:=i) (x:=x) t (by simpa using e)
  exact ⟨u,by simpa using h1,h2⟩
theorem Vals.append:∀ {xs ys:List V} {us ws:List Value},Vals xs us→Vals ys ws→Vals (xs ++ ys) (us ++ ws)
 | _,_,_,_,.nil,s=>s
 | _,_,_,_,.cons r t,s=> .cons r (Vals.append t s)
theorem Vals.take:∀ {xs:List V} {us:List Value} (n:Nat),Vals xs us→Vals (xs.take n) (us.take n)
 | _,_,0,_=> .nil
 | _,_,_+1,.nil=> .nil
 | _,_,n+1,.cons r t=> .cons r (Vals.take n t)
theorem Vals.drop:∀ {xs:List V} {us:List Value} (n:Nat),Vals xs us→Vals (xs.drop n) (us.drop n)
 | _,_,0,r=>r
 | _,_,_+1,.nil=> .nil
 | _,_,n+1,.cons _ t=>Vals.drop n t
noncomputable def RelO:Option V→Option Value→Prop
 | some v,some u=>RelV v u
 | none,none=>True
 | _,_=>False
noncomputable def KV {κ:Type}:List (κ×V)→List (κ×Value)→Prop:=Paired fun (p:κ×V) (q:κ×Value)=>p.1=q.1∧RelV p.2 q.2
noncomputable def kV:bu→V
 | .inl i=> .int i
 | .inr x=> .str x
inductive HO where
 /-- a list -/
 | lst (xs:List V)
 /-- a tuple (never changes) -/
 | tup (xs:List V)
 /-- a dict whose keys are ints and texts; one whose keys are tuples of ints and texts (the empty one is both) -/
 | dK (kvs:List (bu×V)) | dT (kvs:List (List bu×V))
 /-- a set of ints:its members,its size -/
 | set (S:Int→Bool) (n:Nat)
 /-- an instance of the class at C,its dict at dx,its attributes -/
 | ins (C dx:Addr) (fs:List (Str×V))
 /-- the dict of the instance at x -/
 | own (x:Addr)
 /-- the dict of an exception -/
 | xd (fs:List (Str×V))
 /-- a bound method,f of x -/
 | met (f x:Addr)
 /-- a range object lo,lo+1,.. below hi -/
 | rng (lo hi:Int)
 /-- a thing that is known to the object (the script; a dict while a loop walks it):read,never written while it is so -/
 | frz (o:Obj) (u:HO)
 /-- a code object's table -/
 | tbl (ps:Array Value)
 /-- any other thing,by what is true of its one object (a def of one's own:SetO a S n:=HO.ext fun h=> ..) -/
 | ext (φ:Heap→Prop)
noncomputable abbrev Hp:=Addr→Option HO
noncomputable def bg (H:Hp)(a:Addr)(o:HO):Hp:=fun b=>if b=a then some o else H b
theorem ao {H:Hp}{a:Addr}{o:HO}:bg H a o a=some o:=by unfold bg; rw [if_pos rfl]
theorem ai {H:Hp}{a b:Addr}{o:HO}(h:b≠a):bg H a o b=H b:=by unfold bg; rw [if_neg h]
theorem Fs {H:Hp}{a b:Addr}{o u:HO}(h:H a=some o)(h':H b=some u)(d:o≠u):a≠b:=by
 intro e; subst e; rw [h] at h'; exact d (Option.some.inj h')
theorem aw {H:Hp}{a b:Addr}{o:HO}(h:H a=some o)(h':H b=none):a≠b:=by
 intro e; subst e; rw [h] at h'; cases h'
section
variable(P:Program)(w:World)
noncomputable def ObjOk (H:Hp)(h:Heap)(a:Addr):HO→Prop
 | .lst xs=>xs.length≤sizeLine∧∃ (its:List Value) (n:Nat),Vals xs its∧h.get? a=some { cls:= .type "list",data:= .seq its.toArray n }
 | .tup xs=>xs.length≤sizeLine∧∃ its:List Value,Vals xs its∧IsTup h a its.toArray
 | .dK kvs=>kvs.length≤sizeLine∧(a == sysModules)=false∧∃ vs,KV kvs vs∧h.DictOf (bU P w) a vs
 | .dT kvs=>kvs.length≤sizeLine∧(a == sysModules)=false∧∃ xs:List (List bu×Addr×Value),
   Paired (fun (p:List bu×V) (q:List bu×Addr×Value)=>p.1=q.1∧H q.2.1=some (.tup (p.1.map kV))∧RelV p.2 q.2.2) kvs xs∧
   ∃ o es ep,h.get? a=some o∧o.ExactDict∧o.data= .dict es ep∧es.toList=xs.map (entryOfKey (tupleKind (bU P w)))∧(xs.map (·.1)).Nodup
 | .set S n=>h.SetOf (intKind P w) a S n
 | .ins C dx fs=>H dx=some (.own a)∧fs.length≤1000∧dx≠a∧h.get? a=some (W.instObj C dx)∧
   ∃ mA,h.Ns1 dx mA∧(∀ f,RelO (fs.lookup f) (mA f))∧PySem.Within mA (fs.map (·.1))
 | .own _=>∃ o,h.get? a=some o
 | .xd fs=>∃ mA,h.Ns1 a mA∧∀ f,RelO (fs.lookup f) (mA f)
 | .rng lo hi=>∃ t u v,h.get? a=some { cls:= .type "range",data:= .fields #[.int lo t,.int hi u,.int 1 v] }
 | .frz o u=>h.get? a=some o∧ObjOk H h a u
 | .tbl ps=>h.get? a=some { cls:= .none,data:= .fields ps }
 | .met f x=>h.get? a=some (W.methodObj (.ref f) (.ref x))
 | .ext φ=>φ h∧(∃ o,h.get? a=some o)∧∀ h1 h2:Heap,φ h1→(∀ o,h1.get? a=some o→h2.get? a=some o)→φ h2
noncomputable def HOk (H:Hp)(h:Heap):Prop:=∀ a o,H a=some o→ObjOk P w H h a o
end
section
variable{P:Program}{w:World}{H H':Hp}{h h':Heap}{a:Addr}{o:HO}
theorem ObjOk.lt (x:ObjOk P w H h a o):a < h.objs.size:=by
 cases o with
 | lst xs=>refine yK (x) fun _ _ _ _ e=> ?_; exact Heap.lt_size e
 | tup xs=>refine r9 (x) fun _ _ _ p=> ?_; exact p.lt
 | dK kvs=>refine tX (x) fun _ _ _ _ o _ _ e _=> ?_; exact Heap.lt_size e
 | dT kvs=>refine tX (x) fun _ _ _ _ o _ _ e _=> ?_; exact Heap.lt_size e
 | set S n=>refine DA (x) fun o _ _ _ e _=> ?_; exact Heap.lt_size e
 | ins C dx fs=>refine qx (x) fun _ _ _ e _=> ?_; exact Heap.lt_size e
 | own y=>obtain ⟨_,e⟩:=x; exact Heap.lt_size e
 | xd fs=>obtain ⟨_,⟨_,_,_,e,_⟩,_⟩:=x; exact Heap.lt_size e
 | rng lo hi=>refine AT (x) fun _ _ _ e=> ?_; exact Heap.lt_size e
 | frz ob u=>obtain ⟨e,_⟩:=x; exact Heap.lt_size e
 | tbl ps=>exact Heap.lt_size (show h.get? a=some _ from x)
 | met f y=>exact Heap.lt_size (show h.get? a=some _ from x)
 | ext φ=>obtain ⟨_,⟨_,e⟩,_⟩:=x; exact Heap.lt_size e
theorem Paired.mapP {α β:Type}{F G:α→β→Prop}:∀ {l₁:List α} {l₂:List β},Paired F l₁ l₂→(∀ a b,F a b→G a b)→Paired G l₁ l₂
 | _,_,.nil,_=> .nil
 | _,_,.cons r t,f=> .cons (f _ _ r) (Paired.mapP t f)
theorem ObjOk.stay (x:ObjOk P w H h a o)(k:∀ b u,(b=a∨H b=some (.own a))→h.get? b=some u→h'.get? b=some u)
  (ho:∀ b,H b=some (.own a)→H' b=some (.own a)) (ht:∀ b xs,H b=some (.tup xs)→H' b=some (.tup xs)):ObjOk P w H' h' a o:=by
 induction o with
 | lst xs=>refine yK (x) fun z its n r e=> ?_; exact (mL z its n r (k _ _ (.inl rfl) e))
 | tup xs=>refine Hi (x) fun z its r g e c=> ?_; exact (GB z its r g (k _ _ (.inl rfl) e) c)
 | dK kvs=>refine tX (x) fun z y vs r g i j e c=> ?_; exact (EM z y vs r g i j (k _ _ (.inl rfl) e) c)
 | dT kvs=>
  refine tX (x) fun z y xs r g i j e c=> ?_
  exact (EM z y xs (Paired.mapP r fun p q z=>⟨z.1,ht _ _ z.2.1,z.2.2⟩) g i j (k _ _ (.inl rfl) e) c)
 | set S n=>refine DA (x) fun g i j t e c=> ?_; exact (GE g i j t (k _ _ (.inl rfl) e) c)
 | ins C dx fs=>
  refine Hj (x) fun d z ne e mA hS1 r=> ?_; obtain ⟨od,i,j,e2,c⟩:=hS1
  exact (GF (ho _ d) z ne (k _ _ (.inl rfl) e) mA (vJ od i j (k _ _ (.inr d) e2) c) r)
 | own y=>obtain ⟨g,e⟩:=x; exact ⟨g,k _ _ (.inl rfl) e⟩
 | xd fs=>obtain ⟨mA,⟨od,i,j,e,c⟩,r⟩:=x; exact ⟨mA,(vJ od i j (k _ _ (.inl rfl) e) c),r⟩
 | rng lo hi=>refine AT (x) fun t u v e=> ?_; exact (EN t u v (k _ _ (.inl rfl) e))
 | frz g u ih=>obtain ⟨e,q⟩:=x; exact ⟨k _ _ (.inl rfl) e,ih q⟩
 | tbl ps=>
  have e:h.get? a=some { cls:= .none,data:= .fields ps }:=x
  show h'.get? a=some { cls:= .none,data:= .fields ps }
  exact k a _ (.inl rfl) e
 | met f y=>
  have e:h.get? a=some (W.methodObj (.ref f) (.ref y)):=x
  show h'.get? a=some (W.methodObj (.ref f) (.ref y))
  exact k a _ (.inl rfl) e
 | ext φ=>obtain ⟨p,⟨o,e⟩,st⟩:=x; exact ⟨st _ _ p fun o q=>k _ _ (.inl rfl) q,⟨o,k _ _ (.inl rfl) e⟩,st⟩
theorem HOk.lt (x:HOk P w H h)(e:H a=some o):a < h.objs.size:=(x a o e).lt
theorem HOk.fresh (x:HOk P w H h)(e:h.objs.size≤a):H a=none:=by
 cases q:H a with
 | none=>rfl
 | some u=>exact absurd (Nat.lt_of_lt_of_le (x.lt q) e) (Nat.lt_irrefl _)
theorem HOk.kept (x:HOk P w H h)(k:∀ b u,h.get? b=some u→h'.get? b=some u):HOk P w H h':=fun a o e=>
 (x a o e).stay (fun b u _ q=>k b u q) (fun _ q=>q) fun _ _ q=>q
theorem HOk.laid (x:HOk P w H h)(k:∀ b u,h.get? b=some u→h'.get? b=some u)(hp:h.objs.size≤a)(new:ObjOk P w (bg H a o) h' a o):HOk P w (bg H a o) h':=fun b u e=>by
 have hn:=x.fresh hp
 by_cases hb:b=a
 ·subst hb; rw [ao] at e; cases e; exact new
 ·rw [ai hb] at e
  exact (x b u e).stay (fun c v _ q=>k c v q) (fun c q=>by rw [ai (aw q hn)]; exact q) fun c xs q=>by rw [ai (aw q hn)]; exact q
end
noncomputable def Rd (H:Hp)(a:Addr)(u:HO):Prop:=H a=some u∨∃ o,H a=some (.frz o u)
theorem Rd.ok {P:Program}{w:World}{H:Hp}{h:Heap}{a:Addr}{u:HO}(r:Rd H a u)(x:HOk P w H h):ObjOk P w H h a u:=by
 rcases r with r | ⟨o,r⟩
 ·exact x a u r
 ·obtain ⟨_,q⟩:=x a _ r
  exact q
noncomputable def DM:Option HO→Prop
 | some (.lst _)=>True
 | some (.dK _)=>True
 | some (.dT _)=>True
 | some (.set _ _)=>True
 | some (.ins _ _ _)=>True
 | some (.ext _)=>True
 | _=>False
section
variable{P:Program}{w:World}{H:Hp}{h h':Heap}{x e:Addr}{o':HO}
theorem HOk.write (ok:HOk P w H h)(mu:DM (H x))(he:e=x∨H e=some (.own x))(k:∀ b u,b≠e→h.get? b=some u→h'.get? b=some u)(heo:∃ u,h'.get? e=some u)
  (new:ObjOk P w (bg H x o') h' x o'):HOk P w (bg H x o') h':=fun b u q=>by
 have nown:∀ c y,H c=some (.own y)→c≠x:=fun c y r z=>by subst z; rw [r] at mu; exact mu
 have ntup:∀ c xs,H c=some (.tup xs)→c≠x:=fun c xs r z=>by subst z; rw [r] at mu; exact mu
 by_cases hb:b=x
 ·subst hb; rw [ao] at q; cases q; exact new
 ·rw [ai hb] at q
  by_cases d:b=e
  ·have q':H b=some (.own x):=by
    rcases he with z | z
    ·exact absurd (d.trans z) hb
    ·rw [d]; exact z
   rw [q] at q'; cases q'
   obtain ⟨v,hv⟩:=heo
   exact ⟨v,by rw [d]; exact hv⟩
  ·refine (ok b u q).stay (fun c v hc r=>k c v ?_ r) (fun c r=>by rw [ai (nown c b r)]; exact r) fun c xs r=>by rw [ai (ntup c xs r)]; exact r
   rcases hc with rfl | hc
   ·exact d
   ·rintro rfl
    rcases he with z | z
    ·exact nown c b hc z
    ·rw [hc] at z; cases z; exact hb rfl
end
structure Un (fs ex:List Addr)(H H':Hp)(h h':Heap):Prop where
 keep:∀ b o,h.get? b=some o→H b=none→b∉fs→b∉ex→h'.get? b=some o
 slot:∀ b o,h.get? b=some o→H b=none→b∈fs→b∉ex→∃ sl,h'.get? b=some { o with slots:=sl }
 free:∀ b o,h.get? b=some o→H b=none→b∉ex→H' b=none
 there:∀ b o,h.get? b=some o→b∉ex→∃ o',h'.get? b=some o'
 tups:∀ b xs,H b=some (.tup xs)→H' b=some (.tup xs)
 frzs:∀ b o u,H b=some (.frz o u)→H' b=some (.frz o u)
 tbls:∀ b ps,H b=some (.tbl ps)→∃ more,H' b=some (.tbl (ps ++ more))
section
variable{fs fs' ex ex':List Addr}{H H1 H2:Hp}{h h1 h2 h':Heap}{a x e:Addr}{o:HO}
theorem Un.any (u:Un fs ex H H1 h h1){b:Addr}{ob:Obj}(q:h.get? b=some ob)(n:H b=none)(hx:b∉ex):∃ sl,h1.get? b=some { ob with slots:=sl }:=by
 by_cases hb:b∈fs
 ·exact u.slot b ob q n hb hx
 ·exact ⟨ob.slots,u.keep b ob q n hb hx⟩
theorem Un.kept (k:∀ b u,h.get? b=some u→h'.get? b=some u):Un fs ex H H h h':=
 ⟨fun b ob q _ _ _=>k b ob q,fun b ob q _ _ _=>⟨ob.slots,k b ob q⟩,fun _ _ _ n _=>n,fun b ob q _=>⟨ob,k b ob q⟩,fun _ _ q=>q,fun _ _ _ q=>q,fun _ ps q=>⟨#[],by rw [q]; simp⟩⟩
theorem Un.refl:Un fs ex H H h h:=Un.kept fun _ _ q=>q
theorem Un.laid (k:∀ b u,h.get? b=some u→h'.get? b=some u)(hp:h.objs.size≤a)(hn:H a=none):Un fs ex H (bg H a o) h h' where
 keep:=fun b u q _ _ _=>k b u q
 slot:=fun b u q _ _ _=>⟨u.slots,k b u q⟩
 free:=fun b u q n _=>by rw [ai (Nat.ne_of_lt (Nat.lt_of_lt_of_le (Heap.lt_size q) hp))]; exact n
 there:=fun b u q _=>⟨u,k b u q⟩
 tups:=fun b xs q=>by rw [ai (aw q hn)]; exact q
 frzs:=fun b u xs q=>by rw [ai (aw q hn)]; exact q
 tbls:=fun b ps q=>⟨#[],by rw [ai (aw q hn),q]; simp⟩
theorem Un.write (mu:DM (H x))(he:e=x∨H e=some (.own x))(k:∀ b u,b≠e→h.get? b=some u→h'.get? b=some u)(heo:∃ u,h'.get? e=some u):Un fs ex H (bg H x o) h h':=by
 have hx:∀ b,H b=none→b≠x:=fun b n z=>by subst z; rw [n] at mu; exact mu
 have hb:∀ b,H b=none→b≠e:=fun b n z=>by
  subst z
  rcases he with r | r
  ·exact hx b n r
  ·rw [n] at r; cases r
 have hm:∀ b u,H b=some u→¬ DM (some u)→b≠x:=fun b u q nm z=>by subst z; rw [q] at mu; exact nm mu
 refine ⟨fun b u q n _ _=>k b u (hb b n) q,fun b u q n _ _=>⟨u.slots,k b u (hb b n) q⟩,fun b u q n _=>by rw [ai (hx b n)]; exact n,fun b u q _=> ?_,
  fun b xs q=>by rw [ai (hm b _ q fun z=>z)]; exact q,fun b u xs q=>by rw [ai (hm b _ q fun z=>z)]; exact q,fun b ps q=>⟨#[],by rw [ai (hm b _ q fun z=>z),q]; simp⟩⟩
 by_cases hbe:b=e
 ·subst hbe; exact heo
 ·exact ⟨u,k b u hbe q⟩
end
noncomputable def Gf (h:Heap)(H:Hp):List Addr:=(List.range h.objs.size).filter fun a=>(H a).isSome
noncomputable def pT (h:Heap)(H:Hp):Heap:=W.hideAll h (Gf h H)
theorem vH (h:Heap)(H:Hp):(pT h H).objs.size=h.objs.size:=W.hideAll_size _ _
theorem xi {h:Heap}{H:Hp}{b:Addr}{o:Obj}(e:h.get? b=some o)(n:H b=none):(pT h H).get? b=some o:=
 W.hideAll_get _ e fun hm=>by
  have q:(H b).isSome=true:=(List.mem_filter.mp hm).2
  rw [n] at q; simp at q
theorem zP {h:Heap}{H:Hp}{b:Addr}{o:Obj}(e:(pT h H).get? b=some o):h.get? b=some o∧H b=none:=by
 have e':h.get? b=some o:=W.of_hideAll (Gf h H) e
 refine ⟨e',?_⟩
 cases q:H b with
 | none=>rfl
 | some x=>
  have hm:b∈Gf h H:=List.mem_filter.mpr ⟨List.mem_range.mpr (Heap.lt_size e'),by simp [q]⟩
  have z:(pT h H).get? b=none:=W.hideAll_none (Gf h H) hm
  rw [z] at e; cases e
structure Mod (K:W.Frag)(mg:Str→Option Value)(base:Heap):Prop where
 kin:K.In base
 glob:base.Ns mainGlobals mg
 blt:∃ mb,base.Ns builtinsNs mb∧∀ x:Str,x≠ "__name__" →mb x=bootBuiltins x
 nolimit:base.NoLimit
structure Cx where
 prog:Program
 w:World
 K:W.Frag
 mg:Str→Option Value
 base:Heap
 A:Around
 N:List Str
 s₀:Shared
 H₀:Hp
 env:Env
 outer:List Env
 stack:List Env
 ex:List Addr
 fn:Str→Bool
 calm:Bool
 pn:List (Addr×Obj)
 xe:Value→Shared→Prop
noncomputable def jC (l:List Env):List Addr:=l.filterMap (·.frame)
noncomputable abbrev Cx.fs (X:Cx):List Addr:=jC X.outer
noncomputable def t9 (sc:Scope)(x:Str):Prop:=sc.names.lookup x=some .local∨sc.names.lookup x=some .cell∨sc.names.lookup x=some .free
noncomputable def si (sc:Scope)(x:Str):Prop:=sc.names.lookup x=some .local∨sc.names.lookup x=some .cell
noncomputable def Gm (env:Env)(h:Heap)(m:Str→Option Value)(x:Str)(u:Value):Prop:=
 (env.kindOf x=some .local∧m x=some u)∨((env.kindOf x=some .cell∨env.kindOf x=some .free)∧∃ c,env.cells.lookup x=some c∧h.IsCell c (some u))
structure Cx.Ok (X:Cx):Prop where
 mod:Mod X.K X.mg X.base
 kind:X.env.scope.kind= .function
 glob:X.env.globals=mainGlobals
 blt:X.env.builtins=builtinsNs
 above:X.s₀.heap.objs.size≤X.env.locals
 inj:∀ x y c,X.env.cells.lookup x=some c→X.env.cells.lookup y=some c→x=y
 has:∀ x,(X.env.kindOf x=some .cell∨X.env.kindOf x=some .free)→∃ c,X.env.cells.lookup x=some c
 cab:∀ x c,X.fn x=true→X.env.cells.lookup x=some c→X.s₀.heap.objs.size≤c
 hd:X.calm=true→X.A.handled=none
 frames:X.A.frames=some X.stack
 stk:X.stack=X.outer∨(X.stack=X.env :: X.outer∧X.env.frame=some X.env.locals)
 exf:∀ b∈X.ex,b≠X.env.locals∧∀ x c,X.env.cells.lookup x=some c→c≠b
 bs:∀ b o,X.base.get? b=some o→X.s₀.heap.get? b=some o∧X.H₀ b=none
 bsz:X.base.objs.size≤X.s₀.heap.objs.size
 noex:∀ b o,X.base.get? b=some o→b∉X.ex
 exfs:∀ b∈X.ex,b∉X.fs
 funs:X.s₀.heap.FunFrames X.base X.outer
 frf:∀ b∈X.fs,X.H₀ b=none
structure Inv (X:Cx)(pins:List (Addr×Obj))(σ:List (Option V))(H:Hp)(s:Shared):Prop where
 ok:X.Ok
 os:s.os=X.s₀.os
 bare:AllBare s.gens
 base:Un X.fs X.ex X.H₀ H X.s₀.heap s.heap
 loc:∃ m,s.heap.Ns X.env.locals m∧∀ (i:Nat) (x:Str) (v:V),X.N[i]?=some x→σ[i]?=some (some v)→t9 X.env.scope x→∃ u,RelV v u∧Gm X.env s.heap m x u
 cell:∀ x c,X.env.cells.lookup x=some c→∃ v,s.heap.IsCell c v
 free:H X.env.locals=none
 freeC:∀ x c,X.env.cells.lookup x=some c→H c=none
 pin:∀ p∈X.pn ++ pins,s.heap.get? p.1=some p.2∧H p.1=none∧p.1≠X.env.locals∧p.1∉X.fs∧∀ v,p.2.data≠ .cell v
 hok:HOk X.prog X.w H s.heap
 len:σ.length=X.N.length
section
variable{X:Cx}{pins:List (Addr×Obj)}{σ:List (Option V)}{H H':Hp}{s:Shared}{h':Heap}
theorem Cx.Ok.nofr (ok:X.Ok){b:Addr}{o:Obj}(e:X.base.get? b=some o):b∉X.fs:=fun hb=>by
 have:=(ok.funs.mem hb).1
 rw [e] at this; cases this
theorem Inv.bs (I:Inv X pins σ H s):∀ b o,X.base.get? b=some o→s.heap.get? b=some o∧H b=none:=fun b o e=>
 ⟨I.base.keep b o (I.ok.bs b o e).1 (I.ok.bs b o e).2 (I.ok.nofr e) (I.ok.noex b o e),I.base.free b o (I.ok.bs b o e).1 (I.ok.bs b o e).2 (I.ok.noex b o e)⟩
theorem Inv.bk (I:Inv X pins σ H s):∀ b o,X.base.get? b=some o→s.heap.get? b=some o:=fun b o e=>(I.bs b o e).1
theorem Inv.mod (I:Inv X pins σ H s):Mod X.K X.mg X.base:=I.ok.mod
theorem Inv.kIn (I:Inv X pins σ H s):X.K.In s.heap:=I.ok.mod.kin.keeps I.bk
theorem Inv.lt (I:Inv X pins σ H s):X.env.locals < s.heap.objs.size:=let ⟨_,hn,_⟩:=I.loc; hn.lt
theorem Inv.sz (I:Inv X pins σ H s):X.s₀.heap.objs.size≤s.heap.objs.size:=Nat.le_trans I.ok.above (Nat.le_of_lt I.lt)
theorem Inv.nofs (I:Inv X pins σ H s){a:Addr}(h:s.heap.objs.size≤a):a∉X.fs:=fun hb=>by
 refine r9 (I.ok.funs.mem hb) fun _ o ho _=> ?_
 exact absurd (Nat.lt_of_lt_of_le (Heap.lt_size ho) (Nat.le_trans I.sz h)) (Nat.lt_irrefl _)
theorem Inv.cne (I:Inv X pins σ H s):∀ x c,X.env.cells.lookup x=some c→c≠X.env.locals:=fun x c e z=>by
 refine cps fun PP kP=> ?_
 refine lh (I.cell x c e) fun v o ho hd=> ?_
 obtain ⟨m,⟨o',es,ep,ho',hd',_⟩,_⟩:=I.loc
 refine kP ?_; clear kP PP
 rw [z,ho'] at ho; cases ho; rw [hd'] at hd; cases hd
theorem Inv.funs (I:Inv X pins σ H s):s.heap.FunFrames X.base X.outer:=by
 have all:∀ (l:List Env),(∀ b∈jC l,b∈X.fs)→X.s₀.heap.FunFrames X.base l→s.heap.FunFrames X.base l:=by
  intro l
  induction l with
  | nil=>intro _ _; trivial
  | cons env r ih=>
   intro hs hl
   refine cps fun PP kP=> ?_
   obtain ⟨hk,⟨L,o,hf,hn,ho,hd⟩,hr⟩:=hl
   have hL:L∈X.fs:=hs L (by unfold jC; rw [List.filterMap_cons,hf]; exact List.mem_cons_self)
   obtain ⟨sl,e⟩:=I.base.slot L o ho (I.ok.frf L hL) hL fun z=>I.ok.exfs L z hL
   refine kP ?_; clear kP PP
   exact ⟨hk,(kR L _ hf hn e hd),ih (fun b hb=>hs b (by unfold jC; rw [List.filterMap_cons,hf]; exact cI hb)) hr⟩
 exact all X.outer (fun _ hb=>hb) I.ok.funs
theorem Inv.stack (I:Inv X pins σ H s):s.heap.FunFrames X.base X.stack:=by
 rcases I.ok.stk with e | ⟨e,hf⟩
 ·rw [e]; exact I.funs
 ·rw [e]
  obtain ⟨m,hn,_⟩:=I.loc
  refine .cons (by rw [I.ok.kind]; decide) hf hn ?_ I.funs
  exact Heap.get?_none_of_le (Nat.le_trans I.ok.bsz I.ok.above)
theorem Inv.stkSub (I:Inv X pins σ H s):∀ b∈jC X.stack,b∈X.env.locals :: X.fs:=fun b hb=>by
 rcases I.ok.stk with e | ⟨e,hf⟩
 ·rw [e] at hb; exact cI hb
 ·rw [e] at hb
  unfold jC at hb
  rw [List.filterMap_cons,hf] at hb
  exact hb
theorem Inv.stkFree (I:Inv X pins σ H s):∀ b∈jC X.stack,H b=none:=fun b hb=>by
 rcases List.mem_cons.mp (I.stkSub b hb) with e | hb
 ·rw [e]; exact I.free
 ·refine r9 (I.ok.funs.mem hb) fun _ o ho _=> ?_
  exact I.base.free b o ho (I.ok.frf b hb) fun z=>I.ok.exfs b z hb
theorem Inv.step {g':Array GenState}{t':Nat}{d':Drawn}{ch:List Addr}(I:Inv X pins σ H s)
  (hch:∀ b∈ch,(b∈X.ex∨X.s₀.heap.objs.size≤b)∧b≠X.env.locals∧(∀ x c,X.env.cells.lookup x=some c→c≠b)∧∀ p∈X.pn ++ pins,p.1≠b)
  (keep:∀ b o,b≠X.env.locals→b∉X.fs→b∉ch→s.heap.get? b=some o→H b=none→h'.get? b=some o)
  (slot:∀ b o,b≠X.env.locals→b∈X.fs→b∉ch→s.heap.get? b=some o→H b=none→∃ sl,h'.get? b=some { o with slots:=sl }) (free:∀ b o,b∉ch→s.heap.get? b=some o→H b=none→H' b=none)
  (there:∀ b o,b∉ch→s.heap.get? b=some o→∃ o',h'.get? b=some o')
  (tups:∀ b xs,H b=some (.tup xs)→H' b=some (.tup xs)) (frzs:∀ b o u,H b=some (.frz o u)→H' b=some (.frz o u)) (tbls:∀ b ps,H b=some (.tbl ps)→∃ more,H' b=some (.tbl (ps ++ more)))
  (ns:∀ m,s.heap.Ns X.env.locals m→h'.Ns X.env.locals m) (hok:HOk X.prog X.w H' h') (hg:AllBare g') :
  Inv X pins σ H' { s with heap:=h',gens:=g',drawn:=d',toks:=t' }:=by
 have neL:∀ b o,X.s₀.heap.get? b=some o→b≠X.env.locals:=fun b o e=>Nat.ne_of_lt (Nat.lt_of_lt_of_le (Heap.lt_size e) I.ok.above)
 have t:∀ b o,X.s₀.heap.get? b=some o→b∉X.ex→b∉ch:=fun b o e f hb=>by
  rcases (hch b hb).1 with z | z
  ·exact f z
  ·exact absurd (Nat.lt_of_lt_of_le (Heap.lt_size e) z) (Nat.lt_irrefl _)
 have g:∀ x c,X.env.cells.lookup x=some c→∀ v,s.heap.IsCell c v→h'.IsCell c v:=fun x c e v hZ39=>by
  obtain ⟨o,ho,hd⟩:=hZ39
  have h:c∉ch:=fun z=>(hch c z).2.2.1 x c e rfl
  by_cases hc:c∈X.fs
  ·obtain ⟨sl,q⟩:=slot c o (I.cne x c e) hc h ho (I.freeC x c e)
   exact ⟨_,q,hd⟩
  ·exact ⟨o,keep c o (I.cne x c e) hc h ho (I.freeC x c e),hd⟩
 refine ⟨I.ok,I.os,hg,⟨fun b o e n hb f=> ?_,fun b o e n hb f=> ?_,fun b o e n f=> ?_,fun b o e f=> ?_,fun b xs e=>tups b xs (I.base.tups b xs e),fun b o xs e=>frzs b o xs (I.base.frzs b o xs e),fun b ps e=> ?_⟩,?_,fun x c e=> ?_,?_,fun x c e=> ?_,fun p hp=> ?_,hok,I.len⟩
 ·exact keep b o (neL b o e) hb (t b o e f) (I.base.keep b o e n hb f) (I.base.free b o e n f)
 ·obtain ⟨sl,j⟩:=I.base.slot b o e n hb f
  obtain ⟨sl',e2⟩:=slot b _ (neL b o e) hb (t b o e f) j (I.base.free b o e n f)
  exact ⟨sl',e2⟩
 ·obtain ⟨o',j⟩:=I.base.there b o e f
  exact free b o' (t b o e f) j (I.base.free b o e n f)
 ·obtain ⟨o',j⟩:=I.base.there b o e f
  exact there b o' (t b o e f) j
 ·obtain ⟨m1,j⟩:=I.base.tbls b ps e
  obtain ⟨m2,e2⟩:=tbls b _ j
  exact ⟨m1 ++ m2,by rw [e2,Array.append_assoc]⟩
 ·obtain ⟨m,hn,hl⟩:=I.loc
  refine ⟨m,ns m hn,fun i x v j e2 e3=> ?_⟩
  obtain ⟨u,r,l⟩:=hl i x v j e2 e3
  refine ⟨u,r,?_⟩
  rcases l with l | ⟨k,c,e,z⟩
  ·exact .inl l
  ·exact .inr (mM k c e (g x c e _ z))
 ·obtain ⟨v,z⟩:=I.cell x c e
  exact ⟨v,g x c e v z⟩
 ·obtain ⟨m,⟨o,_,_,ho,_⟩,_⟩:=I.loc
  exact free _ o (fun z=>(hch _ z).2.1 rfl) ho I.free
 ·refine lh (I.cell x c e) fun v o ho hd=> ?_
  exact free c o (fun z=>(hch c z).2.2.1 x c e rfl) ho (I.freeC x c e)
 ·refine qx (I.pin p hp) fun e n ne nf d=> ?_
  have h:p.1∉ch:=fun z=>(hch p.1 z).2.2.2 p hp rfl
  exact (sJ (keep p.1 p.2 ne nf h e n) (free p.1 p.2 h e n) ne nf d)
theorem Inv.un {t':Nat}(I:Inv X pins σ H s)(u:Un X.fs [] H H' s.heap h')(hok:HOk X.prog X.w H' h'):Inv X pins σ H' { s with heap:=h',toks:=t' }:=by
 refine cps fun PP kP=> ?_
 obtain ⟨m,⟨o,es,ep,ho,r⟩,_⟩:=id I.loc
 obtain ⟨sl,hL⟩:=u.any ho I.free (by simp)
 refine kP ?_; clear kP PP
 exact I.step (g':=s.gens) (d':=s.drawn) (ch:=[]) (fun _ z=>nomatch z) (fun b o _ hb _ e n=>u.keep b o e n hb (by simp)) (fun b o _ hb _ e n=>u.slot b o e n hb (by simp)) (fun b o _ e n=>u.free b o e n (by simp)) (fun b o _ e=>u.there b o e (by simp)) u.tups u.frzs u.tbls (fun m' hm=>by
  refine yL (hm) fun o' es' ep' ho' r'=> ?_
  rw [ho] at ho'; cases ho'
  exact (vJ _ es' ep' hL r')) hok I.bare
theorem Inv.call {g':Array GenState}{t':Nat}{d':Drawn}{ch:List Addr}(I:Inv X pins σ H s)(u:Un (jC X.stack) ch H H' s.heap h')(hok:HOk X.prog X.w H' h')(hg:AllBare g')
  (hch:∀ b∈ch,(b∈X.ex∨X.s₀.heap.objs.size≤b)∧b≠X.env.locals∧(∀ x c,X.env.cells.lookup x=some c→c≠b)∧∀ p∈X.pn ++ pins,p.1≠b) :
  Inv X pins σ H' { s with heap:=h',gens:=g',drawn:=d',toks:=t' }:=by
 refine cps fun PP kP=> ?_
 obtain ⟨m,⟨o,es,ep,ho,r⟩,_⟩:=id I.loc
 obtain ⟨sl,hL⟩:=u.any ho I.free fun z=>(hch _ z).2.1 rfl
 refine kP ?_; clear kP PP
 exact I.step (ch:=ch) hch (fun b o hL hb hc e n=>u.keep b o e n (fun z=>(List.mem_cons.mp (I.stkSub b z)).elim hL hb) hc) (fun b o _ _ hc e n=>u.any e n hc) (fun b o hc e n=>u.free b o e n hc) (fun b o hc e=>u.there b o e hc) u.tups u.frzs u.tbls (fun m' hm=>by
  refine yL (hm) fun o' es' ep' ho' r'=> ?_
  rw [ho] at ho'; cases ho'
  exact (vJ _ es' ep' hL r')) hok hg
theorem Inv.turned {t':Nat}{it:Addr}(I:Inv X pins σ H s)(k:∀ b o,b≠it→s.heap.get? b=some o→h'.get? b=some o)(hn:H it=none)(hL:it≠X.env.locals)
  (h1:it∈X.ex∨X.s₀.heap.objs.size≤it) (h2:∀ x c,X.env.cells.lookup x=some c→c≠it) (h3:∀ p∈X.pn ++ pins,p.1≠it):Inv X pins σ H { s with heap:=h',toks:=t' }:=by
 have nit:∀ b u,H b=some u→b≠it:=fun b u e z=>by rw [z,hn] at e; cases e
 refine I.step (g':=s.gens) (d':=s.drawn) (ch:=[it]) (fun b hb=> ?_) (fun b o _ _ hc e _=>k b o (fun z=>hc (by simp [z])) e) (fun b o _ _ hc e _=>⟨o.slots,k b o (fun z=>hc (by simp [z])) e⟩) (fun _ _ _ _ n=>n)
  (fun b o hc e=>⟨o,k b o (fun z=>hc (by simp [z])) e⟩) (fun _ _ e=>e) (fun _ _ _ e=>e) (fun b ps e=>⟨#[],by rw [e]; simp⟩) (fun m hm=> ?_) (fun b u e=> ?_) I.bare
 ·have e:b=it:=by simpa using hb
  subst e
  exact (nH h1 hL h2 h3)
 ·refine yL (hm) fun o es ep ho r=> ?_
  exact (vJ o es ep (k _ o (Ne.symm hL) ho) r)
 ·refine (I.hok b u e).stay (fun c v hc q=>k c v ?_ q) (fun _ q=>q) fun _ _ q=>q
  rcases hc with z | z
  ·rw [z]; exact nit b u e
  ·exact nit c _ z
theorem Inv.tok (I:Inv X pins σ H s)(t:Nat):Inv X pins σ H { s with toks:=t }:=I.un (h':=s.heap) (t':=t) Un.refl I.hok
theorem Inv.kept {t':Nat}(I:Inv X pins σ H s)(k:∀ b u,s.heap.get? b=some u→h'.get? b=some u):Inv X pins σ H { s with heap:=h',toks:=t' }:=I.un (Un.kept k) (I.hok.kept k)
theorem Inv.laid {a:Addr}{o:HO}{t':Nat}(I:Inv X pins σ H s)(k:∀ b u,s.heap.get? b=some u→h'.get? b=some u)(hp:s.heap.objs.size≤a)(new:ObjOk X.prog X.w (bg H a o) h' a o) :
  Inv X pins σ (bg H a o) { s with heap:=h',toks:=t' }:=I.un (Un.laid k hp (I.hok.fresh hp)) (I.hok.laid k hp new)
theorem Inv.write {x e:Addr}{o:HO}{t':Nat}(I:Inv X pins σ H s)(mu:DM (H x))(he:e=x∨H e=some (.own x))(k:∀ b u,b≠e→s.heap.get? b=some u→h'.get? b=some u)(heo:∃ u,h'.get? e=some u)
  (new:ObjOk X.prog X.w (bg H x o) h' x o):Inv X pins σ (bg H x o) { s with heap:=h',toks:=t' }:=I.un (Un.write mu he k heo) (I.hok.write mu he k heo new)
theorem Inv.weak {σ':List (Option V)}(I:Inv X pins σ H s)(hl:σ'.length=σ.length)(w:∀ (i:Nat) v,σ'[i]?=some (some v)→σ[i]?=some (some v)):Inv X pins σ' H s:=
 ⟨I.ok,I.os,I.bare,I.base,let ⟨m,hn,hl'⟩:=I.loc; ⟨m,hn,fun i x v e1 e2 e3=>hl' i x v e1 (w i v e2) e3⟩,I.cell,I.free,I.freeC,I.pin,I.hok,hl.trans I.len⟩
theorem Inv.pins_of {pins':List (Addr×Obj)}(I:Inv X pins σ H s)(h:∀ p∈pins',s.heap.get? p.1=some p.2∧H p.1=none∧p.1≠X.env.locals∧p.1∉X.fs∧∀ v,p.2.data≠ .cell v):Inv X pins' σ H s:=
 ⟨I.ok,I.os,I.bare,I.base,I.loc,I.cell,I.free,I.freeC,fun p hp=>(List.mem_append.mp hp).elim (fun z=>I.pin p (List.mem_append_left _ z)) (h p),I.hok,I.len⟩
theorem rm {N:List Str}(hN:N.Nodup){i j:Nat}{x:Str}(a:N[i]?=some x)(b:N[j]?=some x):i=j:=by
 obtain ⟨h1,e1⟩:=fG a
 obtain ⟨h2,e2⟩:=fG b
 exact (List.getElem_inj hN).mp (e1.trans e2.symm)
theorem oW {M:Model}{A:Around}{E:Value→Shared→Prop}{i:Nat}{x:Str}{v:V}{u:Value}{Q:Unit→Shared→Prop}(I:Inv X pins σ H s)(hN:X.N.Nodup)(hi:X.N[i]?=some x)(hx:si X.env.scope x)(r:RelV v u)
  (h:∀ s',Inv X pins (σ.set i (some v)) H s'→(∃ a,Heap.SameBut a s.heap s'.heap∧(a=X.env.locals∨X.env.cells.lookup x=some a))→Q () s') (hf:X.fn x=true∨X.env.scope.names.lookup x=some .local:=by first | exact .inl rfl | exact .inr rfl | assumption):wpAny M A (storeName X.env x u) Q E s:=by
 obtain ⟨m,hn,hl⟩:=id I.loc
 have hcls:(X.env.scope.kind == .class || (X.env.scope.kind == .module && X.env.locals != X.env.globals))=false:=by rw [I.ok.kind]; rfl
 have hiσ:i < σ.length:=by rw [I.len]; exact (fG hi).1
 have cne:=I.cne
 have B:∀ {a:Addr} {h':Heap},(∃ o,s.heap.get? a=some o∧H a=none)→Heap.SameBut a s.heap h'→HOk X.prog X.w H h':=fun {a h'} ha l b ob e=>by
  obtain ⟨_,_,C⟩:=ha
  refine (I.hok b ob e).stay (fun c w' hc q=>(l.2 c ?_).trans q) (fun _ q=>q) fun _ _ q=>q
  rintro rfl
  rcases hc with rfl | hc
  ·rw [C] at e; cases e
  ·rw [C] at hc; cases hc
 rcases hx with hk | hk
 ·refine wpAny_storeName_local hk hn (fun h' hn' l=> ?_) hcls
  refine yL (id hn) fun oL _ _ hoL _=> ?_
  refine h _ ⟨I.ok,I.os,I.bare,⟨fun b o e n hb hx=> ?_,fun b o e n hb hx=> ?_,I.base.free,fun b o e hx=> ?_,I.base.tups,I.base.frzs,I.base.tbls⟩,⟨_,hn',fun j y v' t D e3=> ?_⟩,fun y c e=> ?_,I.free,I.freeC,fun p hp=> ?_,B ⟨oL,hoL,I.free⟩ l,by simpa using I.len⟩ ⟨_,l,.inl rfl⟩
  ·exact (l.2 b (Nat.ne_of_lt (Nat.lt_of_lt_of_le (Heap.lt_size e) I.ok.above))).trans (I.base.keep b o e n hb hx)
  ·obtain ⟨sl,t⟩:=I.base.slot b o e n hb hx
   exact ⟨sl,(l.2 b (Nat.ne_of_lt (Nat.lt_of_lt_of_le (Heap.lt_size e) I.ok.above))).trans t⟩
  ·obtain ⟨o',t⟩:=I.base.there b o e hx
   exact ⟨o',(l.2 b (Nat.ne_of_lt (Nat.lt_of_lt_of_le (Heap.lt_size e) I.ok.above))).trans t⟩
  ·by_cases hj:j=i
   ·subst hj
    rw [hi] at t; cases t
    rw [List.getElem?_set_self hiσ] at D
    cases D
    exact ⟨u,r,.inl ⟨hk,by simp⟩⟩
   ·rw [List.getElem?_set_ne (Ne.symm hj)] at D
    obtain ⟨u',r',q⟩:=hl j y v' t D e3
    refine ⟨u',r',?_⟩
    rcases q with ⟨k,e⟩ | ⟨k,c,e,z⟩
    ·refine .inl ⟨k,?_⟩
     have:y≠x:=fun e=>hj (rm hN t (e ▸ hi))
     simp [this,e]
    ·exact .inr (mM k c e (z.sameBut l (cne y c e)))
  ·obtain ⟨w',z⟩:=I.cell y c e
   exact ⟨w',z.sameBut l (cne y c e)⟩
  ·refine qx (I.pin p hp) fun e n ne nf d=> ?_
   exact (sJ ((l.2 p.1 ne).trans e) n ne nf d)
 ·have hfn:X.fn x=true:=by
   rcases hf with z | z
   ·exact z
   ·rw [z] at hk; cases hk
  obtain ⟨c,hc⟩:=I.ok.has x (.inl hk)
  obtain ⟨w',z⟩:=I.cell x c hc
  refine wpAny_storeName_cell I.ok.kind hk hc z (fun h' hc' l=> ?_)
  obtain ⟨oc,hoc,hocd⟩:=id z
  refine h { s with heap:=h' } ⟨I.ok,I.os,I.bare,⟨fun b o e n hb hx=> ?_,fun b o e n hb hx=> ?_,I.base.free,fun b o e hx=> ?_,I.base.tups,I.base.frzs,I.base.tbls⟩,⟨m,hn.sameBut l (Ne.symm (cne x c hc)),fun j y v' t D e3=> ?_⟩,fun y c' e=> ?_,I.free,I.freeC,fun p hp=> ?_,B ⟨oc,hoc,I.freeC x c hc⟩ l,by simpa using I.len⟩ ⟨c,l,.inr hc⟩
  ·exact (l.2 b (Nat.ne_of_lt (Nat.lt_of_lt_of_le (Heap.lt_size e) (I.ok.cab x c hfn hc)))).trans (I.base.keep b o e n hb hx)
  ·obtain ⟨sl,t⟩:=I.base.slot b o e n hb hx
   exact ⟨sl,(l.2 b (Nat.ne_of_lt (Nat.lt_of_lt_of_le (Heap.lt_size e) (I.ok.cab x c hfn hc)))).trans t⟩
  ·obtain ⟨o',t⟩:=I.base.there b o e hx
   exact ⟨o',(l.2 b (Nat.ne_of_lt (Nat.lt_of_lt_of_le (Heap.lt_size e) (I.ok.cab x c hfn hc)))).trans t⟩
  ·by_cases hj:j=i
   ·subst hj
    rw [hi] at t; cases t
    rw [List.getElem?_set_self hiσ] at D
    cases D
    exact ⟨u,r,.inr (mM (.inl hk) c hc hc')⟩
   ·rw [List.getElem?_set_ne (Ne.symm hj)] at D
    obtain ⟨u',r',q⟩:=hl j y v' t D e3
    refine ⟨u',r',?_⟩
    rcases q with q | ⟨k,c',e,z'⟩
    ·exact .inl q
    ·refine .inr (mM k c' e (z'.sameBut l ?_))
     rintro rfl
     exact hj (rm hN t (I.ok.inj _ _ _ e hc ▸ hi))
  ·by_cases hcc:c'=c
   ·subst hcc; exact ⟨_,hc'⟩
   ·obtain ⟨w2,z2⟩:=I.cell y c' e
    exact ⟨w2,z2.sameBut l hcc⟩
  ·refine qx (I.pin p hp) fun e n ne nf d=> ?_
   refine (sJ ((l.2 p.1 ?_).trans e) n ne nf d)
   intro q
   rw [q,hoc] at e
   have q':oc=p.2:=Option.some.inj e
   exact d w' (by rw [← q']; exact hocd)
theorem rT {M:Model}{A:Around}{E:Value→Shared→Prop}{i:Nat}{x:Str}{v:V}{u:Value}{Q:Unit→Shared→Prop}(I:Inv X pins σ H s)(hN:X.N.Nodup)(hi:X.N[i]?=some x)(hx:si X.env.scope x)(r:RelV v u)
  (h:∀ s',Inv X pins (σ.set i (some v)) H s'→Q () s') (hf:X.fn x=true∨X.env.scope.names.lookup x=some .local:=by first | exact .inl rfl | exact .inr rfl | assumption):wpAny M A (storeName X.env x u) Q E s:=
 oW I hN hi hx r (fun s' I' _=>h s' I') hf
theorem Inv.call' {s':Shared}{ch:List Addr}(I:Inv X pins σ H s)(ho:s'.os=s.os)(u:Un (jC X.stack) ch H H' s.heap s'.heap)(hok:HOk X.prog X.w H' s'.heap)(hg:AllBare s'.gens)
  (hch:∀ b∈ch,(b∈X.ex∨X.s₀.heap.objs.size≤b)∧b≠X.env.locals∧(∀ x c,X.env.cells.lookup x=some c→c≠b)∧∀ p∈X.pn ++ pins,p.1≠b):Inv X pins σ H' s':=by
 obtain ⟨h',g',d',t',o'⟩:=s'
 have e:o'=s.os:=ho
 subst e
 exact I.call (g':=g') (t':=t') (d':=d') u hok hg hch
end
noncomputable abbrev XK:=Value→Option Addr→Hp→Prop
noncomputable abbrev St:=List (Option V)
noncomputable abbrev VK:=V→Hp→Prop
noncomputable abbrev TE:=St→Hp→VK→Prop
noncomputable abbrev TT:=St→Hp→(Bool→Hp→Prop)→Prop
noncomputable abbrev TA:=St→Hp→(List V→Hp→Prop)→Prop
structure Ends where
 nx:St→Hp→Prop
 rt:VK
 bk:St→Hp→Prop:=fun _ _=>False
 ct:St→Hp→Prop:=fun _ _=>False
noncomputable abbrev TS:=Ends→St→Hp→Prop
inductive EP (X:Cx)(pins:List (Addr×Obj))(σ:St)(Q:VK)(u:Value)(s':Shared):Prop
 | mk (v:V) (H':Hp) (i:Inv X pins σ H' s') (r:RelV v u) (q:Q v H')
inductive TP (X:Cx)(pins:List (Addr×Obj))(σ:St)(Q:Bool→Hp→Prop)(b:Bool)(s':Shared):Prop
 | mk (H':Hp) (i:Inv X pins σ H' s') (q:Q b H')
inductive AP (X:Cx)(pins:List (Addr×Obj))(σ:St)(Q:List V→Hp→Prop)(us:List Value)(s':Shared):Prop
 | mk (vs:List V) (H':Hp) (i:Inv X pins σ H' s') (r:Vals vs us) (q:Q vs H')
inductive SN (X:Cx)(pins:List (Addr×Obj))(P:St→Hp→Prop)(s':Shared):Prop
 | mk (σ':St) (H':Hp) (i:Inv X pins σ' H' s') (q:P σ' H')
inductive SRt (X:Cx)(pins:List (Addr×Obj))(P:VK)(u:Value)(s':Shared):Prop
 | mk (v:V) (σ':St) (H':Hp) (i:Inv X pins σ' H' s') (r:RelV v u) (q:P v H')
noncomputable def SP (X:Cx)(pins:List (Addr×Obj))(D:Ends)(f:Flow)(s':Shared):Prop:=
 match f with
 | .next=>SN X pins D.nx s'
 | .brk=>SN X pins D.bk s'
 | .cont=>SN X pins D.ct s'
 | .ret u=>SRt X pins D.rt u s'
noncomputable def PE (X:Cx)(e:Expr)(t:TE):Prop:=
 ∀ (pins:List (Addr×Obj)) (s:Shared) (σ:St) (H:Hp) (Q:VK),Inv X pins σ H s→t σ H Q→wpAny (model X.prog X.w) X.A (eval e X.env) (EP X pins σ Q) X.xe s
noncomputable def PT (X:Cx)(e:Expr)(t:TT):Prop:=
 ∀ (pins:List (Addr×Obj)) (s:Shared) (σ:St) (H:Hp) (Q:Bool→Hp→Prop),Inv X pins σ H s→t σ H Q→wpAny (model X.prog X.w) X.A (isTrue e X.env (eval e X.env)) (TP X pins σ Q) X.xe s
noncomputable def PA (X:Cx)(es:List Expr)(t:TA):Prop:=
 ∀ (pos:Pos) (pins:List (Addr×Obj)) (s:Shared) (σ:St) (H:Hp) (Q:List V→Hp→Prop),Inv X pins σ H s→t σ H Q→wpAny (model X.prog X.w) X.A (spliced (backTo pos (starEach es X.env))) (AP X pins σ Q) X.xe s
noncomputable def PS (X:Cx)(st:Stmt)(t:TS):Prop:=
 ∀ (pins:List (Addr×Obj)) (s:Shared) (σ:St) (H:Hp) (D:Ends),Inv X pins σ H s→t D σ H→wpAny (model X.prog X.w) X.A (exec st X.env) (SP X pins D) X.xe s
noncomputable def DO (X:Cx)(st:List Stmt)(t:TS):Prop:=
 ∀ (pins:List (Addr×Obj)) (s:Shared) (σ:St) (H:Hp) (D:Ends),Inv X pins σ H s→t D σ H→wpAny (model X.prog X.w) X.A (execs st X.env) (SP X pins D) X.xe s
theorem aW {α:Type}{t:Sem α}{Q Q':α→Shared→Prop}{M:Model}{A:Around}{E:Value→Shared→Prop}{s:Shared}(h:wpAny M A t Q E s)(hQ:∀ a s,Q a s→Q' a s):wpAny M A t Q' E s:=wpAny_mono h hQ fun _ _ x=>x
section
variable{X:Cx}
noncomputable def FP (i:Nat):TE:=fun σ H Q=>∃ v,σ[i]?=some (some v)∧Q v H
noncomputable def tC (v:V):TE:=fun _ H Q=>Q v H
theorem eY {i:Nat}{x:Str}{pos:Pos}(hN:X.N[i]?=some x)(hv:t9 X.env.scope x)(hd:(x == ("__debug__" :Str))=false:=by decide)(hcd:(x == ("__classdict__" :Str))=false:=by decide):PE X (.Name x pos) (FP i):=by
 intro pins s σ H Q I h
 refine cps fun PP kP=> ?_
 obtain ⟨v,e,h⟩:=h
 obtain ⟨m,hn,hl⟩:=I.loc
 obtain ⟨u,r,l⟩:=hl i x v hN e hv
 refine kP ?_; clear kP PP
 have fin:EP X pins σ Q u s:=⟨v,H,I,r,h⟩
 rcases l with ⟨hk,hm⟩ | ⟨hk,c,hc,n⟩
 ·exact wpAny_Name (wpAny_loadName_local I.ok.kind hk hn hm fin) hd
 ·rcases hk with hk | hk
  ·exact wpAny_Name (wpAny_loadName_cell I.ok.kind hk hc n fin) hd
  ·exact wpAny_Name (wpAny_loadName_free I.ok.kind hk hc n fin hcd) hd
theorem CZ {i j pos}:PE X (.Constant (.int i) j pos) (tC (.int i)):=fun _ _ _ H _ I h=>wpAny_Constant_int ⟨.int i,H,I.tok _,⟨_,rfl⟩,h⟩
theorem FB {b j pos}:PE X (.Constant (.bool b) j pos) (tC (.bl b)):=fun _ _ _ H _ I h=>Constant_bool ⟨.bl b,H,I,rfl,h⟩
theorem Da {x j pos}:PE X (.Constant (.str x) j pos) (tC (.str x)):=fun _ _ _ H _ I h=>Calls.Constant_str ⟨.str x,H,I.tok _,⟨_,rfl⟩,h⟩
noncomputable def Gl (X:Cx)(x:Str):Prop:=X.env.kindOf x=some .globalImplicit
theorem qc {E:Value→Shared→Prop}{pins:List (Addr×Obj)}{s:Shared}{σ:St}{H:Hp}{x:Str}{u:Value}{pos:Pos}{Q:Value→Shared→Prop}(I:Inv X pins σ H s)(hg:Gl X x)(hm:X.mg x=some u)(h:Q u s)
  (hd:(x == ("__debug__" :Str))=false:=by decide):wpAny (model X.prog X.w) X.A (eval (.Name x pos) X.env) Q E s:=
 Calls.Name_function_global I.ok.kind hg (Calls.loadGlobal_global (by rw [I.ok.glob]; exact I.mod.glob.keeps I.bk) hm h) hd
theorem kW {E:Value→Shared→Prop}{pins:List (Addr×Obj)}{s:Shared}{σ:St}{H:Hp}{x:Str}{u:Value}{pos:Pos}{Q:Value→Shared→Prop}(I:Inv X pins σ H s)(hg:Gl X x)(hm:X.mg x=none)(hv:bootBuiltins x=some u)(h:Q u s)
  (hn:x≠ "__name__" :=by decide) (hd:(x == ("__debug__" :Str))=false:=by decide):wpAny (model X.prog X.w) X.A (eval (.Name x pos) X.env) Q E s:=by
 obtain ⟨mb,h1,h2⟩:=I.mod.blt
 exact Calls.Name_function_global I.ok.kind hg (Calls.loadGlobal_builtin (by rw [I.ok.glob]; exact I.mod.glob.keeps I.bk) hm (by rw [I.ok.blt]; exact h1.keeps I.bk) ((h2 x hn).trans hv) h) hd
theorem Ab {x:Str}{v:V}{u:Value}{pos:Pos}(hg:Gl X x)(hm:X.mg x=some u)(r:RelV v u)(hd:(x == ("__debug__" :Str))=false:=by decide):PE X (.Name x pos) (tC v):=
 fun _ _ _ H _ I h=>qc I hg hm ⟨v,H,I,r,h⟩ hd
variable{a b:Expr}{ta tb:TE}{pos:Pos}
variable{tA tB':TT}{rest:List Expr}
end
noncomputable def gs (K:W.Frag)(H:Hp)(a:Addr)(xs:List V):Prop:=
 Rd H a (.lst xs)∨
  ∃ (o:Obj) (its:Array Value) (n:Nat),K.lookup a=some o∧o.cls= .type "list" ∧o.dict=none∧o.data= .seq its n∧its.size≤sizeLine∧Vals xs its.toList
noncomputable def lL (K:W.Frag)(H:Hp)(a:Addr)(xs:List V):Prop:=
 Rd H a (.tup xs)∨
  ∃ (o:Obj) (its:Array Value) (n:Nat),K.lookup a=some o∧o.cls= .type "tuple" ∧o.data= .seq its n∧its.size≤sizeLine∧Vals xs its.toList
noncomputable def Gq:Value→Option V
 | .none=>some .non
 | .bool b=>some (.bl b)
 | .int i _=>some (.int i)
 | .str x _=>some (.str x)
 | .bytes b _=>some (.byt b)
 | .float b _=>some (.flt b)
 | .ref a=>some (.ref a)
 | .type n=>some (.ty n)
 | _=>none
theorem RelV.abs {x:V}{u:Value}(r:RelV x u):Gq u=some x:=by
 cases x with
 | non=>cases r; rfl
 | bl _=>cases r; rfl
 | int _=>obtain ⟨t,rfl⟩:=r; rfl
 | str _=>obtain ⟨t,rfl⟩:=r; rfl
 | byt _=>obtain ⟨t,rfl⟩:=r; rfl
 | flt _=>obtain ⟨t,rfl⟩:=r; rfl
 | ref _=>cases r; rfl
 | ty _=>cases r; rfl
theorem RelV.inj {x y:V}{u:Value}(r:RelV x u)(q:RelV y u):x=y:=Option.some.inj (r.abs.symm.trans q.abs)
theorem Vals.inj:∀ {xs ys:List V} {us:List Value},Vals xs us→Vals ys us→xs=ys
 | _,_,_,.nil,.nil=>rfl
 | _,_,_,.cons r t,.cons r' t'=>by rw [r.inj r',Vals.inj t t']
section
variable{X:Cx}{pins:List (Addr×Obj)}{σ:St}{H:Hp}{s:Shared}{a:Addr}{xs ys:List V}
theorem Inv.list (I:Inv X pins σ H s)(h:gs X.K H a xs):∃ its:List Value,Vals xs its∧PlainL s.heap a its.toArray∧xs.length≤sizeLine:=by
 rcases h with h | ⟨o,its,n,hk,hc,hd,hs,hz,r⟩
 ·refine yK (h.ok I.hok) fun z its n r e=> ?_
  exact (ik its r (kR _ n e rfl rfl rfl) z)
 ·refine (ik its.toList r (kR o n (I.kIn a o hk) hc hd (by simpa using hs)) ?_)
  have e:=r.length
  simp only [Array.length_toList] at e
  omega
theorem Inv.tuple (I:Inv X pins σ H s)(h:lL X.K H a xs):∃ its:List Value,Vals xs its∧IsTup s.heap a its.toArray∧xs.length≤sizeLine:=by
 rcases h with h | ⟨o,its,n,hk,hc,hs,hz,r⟩
 ·refine r9 (h.ok I.hok) fun z its r p=> ?_
  exact (ik its r p z)
 ·refine (ik its.toList r (EO o (I.kIn a o hk) hc n (by simpa using hs)) ?_)
  have e:=r.length
  simp only [Array.length_toList] at e
  omega
theorem Inv.list_inj (I:Inv X pins σ H s)(h:gs X.K H a xs)(h':gs X.K H a ys):xs=ys:=by
 refine cps fun PP kP=> ?_
 refine cw (I.list h) fun its r hS2 _=> ?_; obtain ⟨o,n,e,_,_,d⟩:=hS2
 refine cw (I.list h') fun its' r' hS3 _=> ?_; obtain ⟨o',n',e',_,_,d'⟩:=hS3
 refine kP ?_; clear kP PP
 rw [e] at e'; cases e'
 rw [d] at d'
 injection d' with d1 _
 have:its=its':=by simpa using congrArg Array.toList d1
 subst this
 exact r.inj r'
theorem Inv.tuple_inj (I:Inv X pins σ H s)(h:lL X.K H a xs)(h':lL X.K H a ys):xs=ys:=by
 refine cps fun PP kP=> ?_
 refine cw (I.tuple h) fun its r hS4 _=> ?_; obtain ⟨o,e,_,n,d⟩:=hS4
 refine cw (I.tuple h') fun its' r' hS5 _=> ?_; obtain ⟨o',e',_,n',d'⟩:=hS5
 refine kP ?_; clear kP PP
 rw [e] at e'; cases e'
 rw [d] at d'
 injection d' with d1 _
 have:its=its':=by simpa using congrArg Array.toList d1
 subst this
 exact r.inj r'
end
section
variable{X:Cx}{pins:List (Addr×Obj)}{σ:St}{H:Hp}{s:Shared}{E:Value→Shared→Prop}
end
section
variable{X:Cx}{st:Stmt}{rest:List Stmt}{t u:TS}{e:Expr}{te:TE}{pos:Pos}
noncomputable def Hf (t u:TS):TS:=fun D σ H=>t { D with nx:=u D } σ H
theorem rH (h1:PS X st t)(h2:DO X rest u):DO X (st :: rest) (Hf t u):=by
 intro pins s σ H D I h
 refine wpAny_execs_cons (aW (h1 pins s σ H { D with nx:=u D } I h) fun f s1 q=> ?_)
 cases f with
 | next=>
  obtain ⟨σ',H',I',q⟩:=q
  exact h2 pins s1 σ' H' D I' q
 | ret v=>exact q
 | brk=>exact q
 | cont=>exact q
theorem As (h1:PS X st t):DO X [st] t:=by
 intro pins s σ H D I h
 refine wpAny_execs_cons (aW (h1 pins s σ H D I h) fun f s1 q=> ?_)
 cases f with
 | next=>exact wpAny_execs_nil q
 | ret v=>exact q
 | brk=>exact q
 | cont=>exact q
theorem Inv.quiet {pins:List (Addr×Obj)}{σ:St}{H:Hp}{s:Shared}(I:Inv X pins σ H s):interactive X.env=false:=by simp [interactive,I.ok.kind]
noncomputable def FN (te:TE):TS:=fun D σ H=>te σ H fun _ H1=>D.nx σ H1
theorem fJ (he:PE X e te)(hs:swapsWith e none pos.line X.env=pure false:=by rfl):PS X (.Expr e pos) (FN te):=by
 intro pins s σ H D I h
 exact wpAny_Expr_any (aW (he pins s σ H _ I h) fun v s1 hZ40=>(by obtain ⟨x,H1,I1,r1,q1⟩:=hZ40; exact ⟨σ,H1,I1,q1⟩)) I.quiet hs
noncomputable def Hd (te:TE):TS:=fun D σ H=>te σ H D.rt
theorem tB (he:PE X e te):PS X (.Return (some e) pos) (Hd te):=by
 intro pins s σ H D I h
 exact wpAny_Return_some (aW (he pins s σ H _ I h) fun v s1 hZ41=>(by obtain ⟨x,H1,I1,r1,q1⟩:=hZ41; exact ⟨x,σ,H1,I1,r1,q1⟩))
end
noncomputable abbrev TG:=V→St→Hp→(St→Hp→Prop)→Prop
noncomputable abbrev BB:=List V→St→Hp→(St→Hp→Prop)→Prop
noncomputable def PG (X:Cx)(target:Expr)(t:TG):Prop:=
 ∀ (pins:List (Addr×Obj)) (s:Shared) (σ:St) (H:Hp) (v:V) (u:Value) (Q:St→Hp→Prop),Inv X pins σ H s→RelV v u→t v σ H Q→
  wpAny (model X.prog X.w) X.A (assign target X.env u) (fun _ s'=>SN X pins Q s') X.xe s
noncomputable def F_ (X:Cx)(ts:List Expr)(t:BB):Prop:=
 ∀ (pins:List (Addr×Obj)) (s:Shared) (σ:St) (H:Hp) (vs:List V) (us:List Value) (Q:St→Hp→Prop),Inv X pins σ H s→Vals vs us→t vs σ H Q→
  wpAny (model X.prog X.w) X.A (assignInOrder ((assignEach ts X.env).map (·.2)) us) (fun _ s'=>SN X pins Q s') X.xe s
section
variable{X:Cx}{pos:Pos}
noncomputable def bY (i:Nat):TG:=fun v σ H Q=>Q (σ.set i (some v)) H
theorem ee {i:Nat}{x:Str}(hN:X.N.Nodup)(hi:X.N[i]?=some x)(hx:si X.env.scope x)(hf:X.fn x=true∨X.env.scope.names.lookup x=some .local:=by first | exact .inl rfl | exact .inr rfl | assumption):PG X (.Name x pos) (bY i):=by
 intro pins s σ H v u Q I r h
 exact wpAny_assign_Name (rT I hN hi hx r (fun s' I'=>⟨_,H,I',h⟩) hf)
noncomputable def vC:BB:=fun vs σ H Q=>vs=[]∧Q σ H
noncomputable def iI (t:TG)(u:BB):BB:=fun vs σ H Q=>∃ v r,vs=v :: r∧t v σ H fun σ' H'=>u r σ' H' Q
theorem qh:F_ X [] vC:=by
 intro pins s σ H vs us Q I r h
 obtain ⟨e,h⟩:=h
 subst e
 cases r
 exact assignInOrder_nil ⟨σ,H,I,h⟩
theorem gq {e:Expr}{es:List Expr}{t:TG}{u:BB}(h1:PG X e t)(h2:F_ X es u)
  (hs:(assignEach (e :: es) X.env).map (·.2)=assign e X.env :: (assignEach es X.env).map (·.2):=by rfl):F_ X (e :: es) (iI t u):=by
 intro pins s σ H vs us Q I r h
 obtain ⟨v,vr,e1,h⟩:=h
 subst e1
 cases r with
 | cons r rr=>
  rw [hs]
  refine assignInOrder_cons (aW (h1 pins s σ H _ _ _ I r h) fun _ s1 hZ42=> ?_)
  obtain ⟨σ1,H1,I1,q1⟩:=hZ42
  exact h2 pins s1 σ1 H1 _ _ Q I1 rr q1
noncomputable def vE (K:W.Frag)(n:Nat)(t:BB):TG:=fun v σ H Q=>∃ a xs,v= .ref a∧lL K H a xs∧xs.length=n∧t xs σ H Q
theorem tu {es:List Expr}{k:Nat}{t:BB}{n:Nat}(hc:X.calm=true)(h:F_ X es t)
  (hn:(assignEach es X.env).length=n:=by rfl) (hst:(assignEach es X.env).findIdx? (·.1)=none:=by rfl):PG X (.Tuple es k pos) (vE X.K n t):=by
 intro pins s σ H v u Q I r hw
 obtain ⟨a,xs,e1,hq,hl,hw⟩:=hw
 subst e1
 cases r
 obtain ⟨its,rv,ht,hz⟩:=I.tuple hq
 refine assign_Tuple_tuple (I.ok.hd hc) ht (by simp [hn,← hl,rv.length]) hst fun h' hx=> ?_
 have I1:Inv X pins σ H { s with heap:=h' }:=I.kept (t':=s.toks) fun b o e=>hx b o (Nat.ne_of_lt (Heap.lt_size e)) e
 exact h pins _ σ H xs _ Q I1 (by simpa using rv) hw
noncomputable def rV (te:TE)(g:TG):TS:=fun D σ H=>te σ H fun x H1=>g x σ H1 D.nx
theorem Dj {i:Nat}{x:Str}{e:Expr}{te:TE}{pos':Pos}(hN:X.N.Nodup)(hi:X.N[i]?=some x)(hx:si X.env.scope x)(he:PE X e te)(hs:swapsWith e (some (.Name x pos')) pos.line X.env=pure false:=by rfl)(hf:X.fn x=true∨X.env.scope.names.lookup x=some .local:=by first | exact .inl rfl | exact .inr rfl | assumption) :
  PS X (.Assign [.Name x pos'] e pos) (rV te (bY i)):=by
 intro pins s σ H D I h
 refine wpAny_Assign_Name (aW (he pins s σ H _ I h) fun v s1 hZ43=> ?_) hs
 obtain ⟨y,H1,I1,r1,q1⟩:=hZ43
 exact rT I1 hN hi hx r1 (fun s2 I2=>⟨_,H1,I2,q1⟩) hf
end
structure It where
 go:Nat→Hp→Prop
 yld:Nat→Hp→V→Hp→Prop
 stop:Nat→Hp→Prop
noncomputable def iA (X:Cx)(pins:List (Addr×Obj))(H:Hp)(b:Addr):Prop:=
 H b=none∧b≠X.env.locals∧b∉X.fs∧(b∈X.ex∨X.s₀.heap.objs.size≤b)∧(∀ x c,X.env.cells.lookup x=some c→c≠b)∧∀ p∈X.pn ++ pins,p.1≠b
theorem Inv.fpOk {X:Cx}{pins:List (Addr×Obj)}{σ:St}{H H':Hp}{s:Shared}{b:Addr}(I:Inv X pins σ H s)(hb:s.heap.objs.size≤b)(hn:H' b=none):iA X pins H' b:=by
 refine (EQ hn (Nat.ne_of_gt (Nat.lt_of_lt_of_le I.lt hb)) (I.nofs hb) (.inr (Nat.le_trans I.sz hb)) (fun x c e z=> ?_) (fun p hp z=> ?_))
 ·obtain ⟨v,q⟩:=I.cell x c e
  exact absurd (Nat.lt_of_lt_of_le q.lt (by rw [z]; exact hb)) (Nat.lt_irrefl _)
 ·exact absurd (Nat.lt_of_lt_of_le (Heap.lt_size (I.pin p hp).1) (by rw [z]; exact hb)) (Nat.lt_irrefl _)
structure Turn (P:Program)(w:World)(K:W.Frag)(tg:Expr)(J:It)(fp:List Addr)(it:Addr)(tn:Nat→Heap→Prop):Prop where
 mem:it∈fp
 obj:∀ i h,tn i h→∀ b∈fp,∃ o,h.get? b=some o∧∀ v,o.data≠ .cell v
 keep:∀ i h h',tn i h→(∀ b∈fp,∀ o,h.get? b=some o→h'.get? b=some o)→tn i h'
 item:∀ (X:Cx),X.prog=P→X.w=w→X.K=K→X.calm=true→∀ (i:Nat) (pins:List (Addr×Obj)) (s:Shared) (σ:St) (H:Hp) (E:Value→Shared→Prop),Inv X pins σ H s→(∀ b∈fp,iA X pins H b)→tn i s.heap→J.go i H→
  wpAny (model P w) X.A (pyNext (.ref it)) (fun r s1=>∃ u,r=some u∧
   wpAny (model P w) X.A (letOwnedTupleGo tg (.ref it) u) (fun _ s2=>∃ x H',Inv X pins σ H' s2∧RelV x u∧J.yld i H x H'∧tn (i+1) s2.heap∧∀ b∈fp,H' b=none) E s1) E s
 done:∀ (X:Cx),X.prog=P→X.w=w→X.K=K→X.calm=true→∀ (i:Nat) (pins:List (Addr×Obj)) (s:Shared) (σ:St) (H:Hp) (E:Value→Shared→Prop),Inv X pins σ H s→(∀ b∈fp,iA X pins H b)→tn i s.heap→J.stop i H→
  wpAny (model P w) X.A (pyNext (.ref it)) (fun r s1=>r=none∧Inv X pins σ H s1) E s
 self:∀ (A:Around) (i:Nat) (s:Shared) (Q:Value→Shared→Prop) (E:Value→Shared→Prop),tn i s.heap→Q (.ref it) s→wpAny (model P w) A (pyIter (.ref it)) Q E s
noncomputable abbrev TI:=St→Hp→(It→Hp→Prop)→Prop
inductive PIE (X:Cx)(pins:List (Addr×Obj))(σ:St)(tg:Expr)(R:It→Hp→Prop)(itv:Value)(s2:Shared):Prop
 | mk (it:Addr) (fp:List Addr) (tn:Nat→Heap→Prop) (J:It) (H':Hp) (e:itv= .ref it) (i:Inv X pins σ H' s2) (T:Turn X.prog X.w X.K tg J fp it tn) (st:tn 0 s2.heap) (f:∀ b∈fp,iA X pins H' b) (q:R J H')
noncomputable def PI (X:Cx)(tg iter:Expr)(wi:TI):Prop:=
 ∀ (pins:List (Addr×Obj)) (s:Shared) (σ:St) (H:Hp) (R:It→Hp→Prop),Inv X pins σ H s→wi σ H R→
  wpAny (model X.prog X.w) X.A (eval iter X.env) (fun v s1=>wpAny (model X.prog X.w) X.A (pyIter v) (PIE X pins σ tg R) X.xe s1) X.xe s
theorem uv {M:Model}{A:Around}{E:Value→Shared→Prop}{s:Shared}{tg:Expr}{it:Addr}{u:Value}{o:Obj}{n:String}{vs:Array Value}{Q:Unit→Shared→Prop}(ho:s.heap.get? it=some o)(hc:o.cls= .type n)(hd:o.data= .fields vs)
    (hn:["enumerate","zip","dict_itemiterator","dict_reverseitemiterator","odict_iterator","itertools.zip_longest","itertools.pairwise"].contains n=false) (hQ:Q () s):wpAny M A (letOwnedTupleGo tg (.ref it) u) Q E s:=by
  unfold letOwnedTupleGo
  cases tg <;> first
    | exact wpAny_pure hQ
    | (cases u <;> first
        | exact wpAny_pure hQ
        | (refine wpAny_bind (wpAny_load ho ?_)
           rw [hc,hd]
           show wpAny M A (if (["enumerate","zip","dict_itemiterator","dict_reverseitemiterator","odict_iterator","itertools.zip_longest","itertools.pairwise"].contains n && vs[0]? == some (rawInt _))=true then _ else _) Q E s
           rw [if_neg (by intro h; rw [hn,Bool.false_and] at h; cases h)]
           exact wpAny_pure hQ))
noncomputable def FY (K:W.Frag)(a:Addr):It:=
 ⟨fun i H=>∃ xs x,gs K H a xs∧xs[i]?=some x,fun i H x H'=>H'=H∧∀ xs,gs K H a xs→xs[i]?=some x,fun i H=>∃ xs,gs K H a xs∧xs.length≤i⟩
noncomputable def FZ (K:W.Frag)(a:Addr):It:=
 ⟨fun i H=>∃ xs x,lL K H a xs∧xs[i]?=some x,fun i H x H'=>H'=H∧∀ xs,lL K H a xs→xs[i]?=some x,fun i H=>∃ xs,lL K H a xs∧xs.length≤i⟩
noncomputable def DL (lo:Int)(n:Nat):It:=⟨fun i _=>i < n,fun i H x H'=>H'=H∧x= .int (lo+i),fun i _=>n≤i⟩
theorem wn {P:Program}{w:World}{K:W.Frag}{tg:Expr}(a it:Addr):Turn P w K tg (FY K a) [it] it (fun i h=>h.IsListIter it a i) where
 mem:=by simp
 obj:=fun i h q b hb=>by
  have e:b=it:=by simpa using hb
  subst e
  refine cw (q) fun o e c d=> ?_
  exact ⟨o,e,fun v z=>by rw [d] at z; cases z⟩
 keep:=fun i h h' q k=>q.at fun o e=>k it (by simp) o e
 item:=by
  intro X hP hw hK hc i pins s σ H E I hf q hg
  subst hP hw hK
  refine cps fun PP kP=> ?_
  refine lh (hg) fun xs x hq hx=> ?_
  refine cw (I.list hq) fun its rv p hz=> ?_
  obtain ⟨u,hu,ru⟩:=rv.get hx
  refine nW (hf it (by simp)) fun f0 f1 f2 f3 f4 f5=> ?_
  refine kP ?_; clear kP PP
  refine wpAny_pyNext_list_item q p.isList (x:=u) (by simpa using hu) fun h' st' sb=> ?_
  have I1:Inv X pins σ H { s with heap:=h' }:=I.turned (t':=s.toks) (fun b o hb e=>(sb.2 b hb).trans e) f0 f1 f3 f4 f5
  refine cw (id st') fun o e c d=> ?_
  exact ⟨u,rfl,uv (s:={ s with heap:=h' }) e c d (by decide) (sK x H I1 ru ⟨rfl,fun ys hy=>by rw [I.list_inj hy hq]; exact hx⟩ st' (fun b hb=>(hf b hb).1))⟩
 done:=by
  intro X hP hw hK hc i pins s σ H E I hf q hg
  subst hP hw hK
  refine cps fun PP kP=> ?_
  obtain ⟨xs,hq,hx⟩:=hg
  refine cw (I.list hq) fun its rv p hz=> ?_
  refine nW (hf it (by simp)) fun f0 f1 f2 f3 f4 f5=> ?_
  refine kP ?_; clear kP PP
  have hl:=rv.length
  exact wpAny_pyNext_list_end (I.ok.hd hc) q p.isList (by simp; omega) fun h' eb=>⟨rfl,I.turned (t':=s.toks) (fun b o hb e=>eb b o hb e) f0 f1 f3 f4 f5⟩
 self:=fun _ _ _ _ _ q h=>wpAny_pyIter_listiter q h
theorem tT {P:Program}{w:World}{K:W.Frag}{tg:Expr}(a it:Addr):Turn P w K tg (FZ K a) [it] it (fun i h=>h.IsTupleIter it a i) where
 mem:=by simp
 obj:=fun i h q b hb=>by
  have e:b=it:=by simpa using hb
  subst e
  refine cw (q) fun o e c d=> ?_
  exact ⟨o,e,fun v z=>by rw [d] at z; cases z⟩
 keep:=fun i h h' q k=>q.at fun o e=>k it (by simp) o e
 item:=by
  intro X hP hw hK hc i pins s σ H E I hf q hg
  subst hP hw hK
  refine cps fun PP kP=> ?_
  refine lh (hg) fun xs x hq hx=> ?_
  refine cw (I.tuple hq) fun its rv p hz=> ?_
  obtain ⟨u,hu,ru⟩:=rv.get hx
  refine nW (hf it (by simp)) fun f0 f1 f2 f3 f4 f5=> ?_
  refine kP ?_; clear kP PP
  refine wpAny_pyNext_tuple_item q (show s.heap.IsTuple a its.toArray from p) (x:=u) (by simpa using hu) fun h' st' sb=> ?_
  have I1:Inv X pins σ H { s with heap:=h' }:=I.turned (t':=s.toks) (fun b o hb e=>(sb.2 b hb).trans e) f0 f1 f3 f4 f5
  refine cw (id st') fun o e c d=> ?_
  exact ⟨u,rfl,uv (s:={ s with heap:=h' }) e c d (by decide) (sK x H I1 ru ⟨rfl,fun ys hy=>by rw [I.tuple_inj hy hq]; exact hx⟩ st' (fun b hb=>(hf b hb).1))⟩
 done:=by
  intro X hP hw hK hc i pins s σ H E I hf q hg
  subst hP hw hK
  refine cps fun PP kP=> ?_
  obtain ⟨xs,hq,hx⟩:=hg
  refine cw (I.tuple hq) fun its rv p hz=> ?_
  refine nW (hf it (by simp)) fun f0 f1 f2 f3 f4 f5=> ?_
  refine kP ?_; clear kP PP
  have hl:=rv.length
  exact wpAny_pyNext_tuple_end (I.ok.hd hc) q (show s.heap.IsTuple a its.toArray from p) (by simp; omega) fun h' eb=>⟨rfl,I.turned (t':=s.toks) (fun b o hb e=>eb b o hb e) f0 f1 f3 f4 f5⟩
 self:=fun _ _ _ _ _ q h=>wpAny_pyIter_tupleiter q h
theorem tS {P:Program}{w:World}{K:W.Frag}{tg:Expr}(it:Addr)(lo:Int)(n:Nat):Turn P w K tg (DL lo n) [it] it (fun i h=>IsRangeIter h it (lo+(i:Nat) * 1) ((n:Int) - (i:Nat)) 1) where
 mem:=by simp
 obj:=fun i h p b hb=>by
  have e:b=it:=by simpa using hb
  subst e
  exact ⟨_,p,fun v z=>by
   have z':Data.fields _=Data.cell v:=z
   cases z'⟩
 keep:=fun i h h' p k=>k it (by simp) _ p
 item:=by
  intro X hP hw hK hc i pins s σ H E I hf p hg
  subst hP hw hK
  refine nW (hf it (by simp)) fun f0 f1 f2 f3 f4 f5=> ?_
  have W:=Walks.range (prog:=X.prog) (w:=X.w) (I.ok.hd hc) it lo 1 n
  refine W.item i s _ _ hg p fun v h' tk hv st' kk=> ?_
  obtain ⟨t,rfl⟩:=hv
  have I1:Inv X pins σ H { s with heap:=h',toks:=tk }:=I.turned (fun b o hb e=>kk b o (by simpa using hb) e) f0 f1 f3 f4 f5
  refine ⟨_,rfl,uv (s:={ s with heap:=h',toks:=tk }) (n:= "range_iterator") st' rfl rfl (by decide) (sK (.int (lo+i)) H I1 ⟨t,?_⟩ ⟨rfl,rfl⟩ st' (fun b hb=>(hf b hb).1))⟩
  rw [Int.mul_one]
 done:=by
  intro X hP hw hK hc i pins s σ H E I hf p hg
  subst hP hw hK
  refine nW (hf it (by simp)) fun f0 f1 f2 f3 f4 f5=> ?_
  exact wpAny_pyNext_range_end (I.ok.hd hc) p (by have:n≤i:=hg; omega) fun h' eb=>⟨rfl,I.turned (t':=s.toks) (fun b o hb e=>eb b o hb e) f0 f1 f3 f4 f5⟩
 self:=fun _ _ _ _ _ p h=>wpAny_pyIter_rangeiter p h
section
variable{X:Cx}{tg:Expr}
noncomputable def Eg (K:W.Frag)(tl:TE):TI:=fun σ H R=>tl σ H fun x H1=>∃ a,x= .ref a∧(∃ xs,gs K H1 a xs)∧R (FY K a) H1
noncomputable def Gz (K:W.Frag)(tl:TE):TI:=fun σ H R=>tl σ H fun x H1=>∃ a,x= .ref a∧(∃ xs,lL K H1 a xs)∧R (FZ K a) H1
theorem Ah {l:Expr}{tl:TE}(hl:PE X l tl):PI X tg l (Eg X.K tl):=by
 intro pins s σ H R I h
 refine aW (hl pins s σ H _ I h) fun v s1 hZ44=> ?_
 refine cps fun PP kP=> ?_
 obtain ⟨x,H1,I1,r1,q1⟩:=hZ44
 refine cw (q1) fun a e hS6 q=> ?_; obtain ⟨xs,hq⟩:=hS6
 refine kP ?_; clear kP PP
 subst e
 cases r1
 refine cw (I1.list hq) fun its rv p hz=> ?_
 refine wpAny_pyIter_list p.isList ?_
 refine ⟨s1.heap.objs.size,[s1.heap.objs.size],_,_,H1,rfl,I1.kept (t':=s1.toks) fun b o e=>Heap.get?_push_of_some _ e,wn a _,(ik _ (Heap.get?_push_size _ rfl) rfl rfl),fun b hb=> ?_,q⟩
 have e:b=s1.heap.objs.size:=by simpa using hb
 subst e
 exact I1.fpOk (Nat.le_refl _) (I1.hok.fresh (Nat.le_refl _))
theorem Dc {l:Expr}{tl:TE}(hl:PE X l tl):PI X tg l (Gz X.K tl):=by
 intro pins s σ H R I h
 refine aW (hl pins s σ H _ I h) fun v s1 hZ45=> ?_
 refine cps fun PP kP=> ?_
 obtain ⟨x,H1,I1,r1,q1⟩:=hZ45
 refine cw (q1) fun a e hS7 q=> ?_; obtain ⟨xs,hq⟩:=hS7
 refine kP ?_; clear kP PP
 subst e
 cases r1
 refine cw (I1.tuple hq) fun its rv p hz=> ?_
 refine wpAny_pyIter_tuple (show s1.heap.IsTuple a its.toArray from p) ?_
 refine ⟨s1.heap.objs.size,[s1.heap.objs.size],_,_,H1,rfl,I1.kept (t':=s1.toks) fun b o e=>Heap.get?_push_of_some _ e,tT a _,(ik _ (Heap.get?_push_size _ rfl) rfl rfl),fun b hb=> ?_,q⟩
 have e:b=s1.heap.objs.size:=by simpa using hb
 subst e
 exact I1.fpOk (Nat.le_refl _) (I1.hok.fresh (Nat.le_refl _))
theorem rJ {pins:List (Addr×Obj)}{σ:St}{H:Hp}{s:Shared}{R:It→Hp→Prop}{E:Value→Shared→Prop}{lo hi:Int}{t u v:Tok}{tk:Nat}(I:Inv X pins σ H s)(h1: -(2 ^ 62)≤lo)(h2:lo < 2 ^ 62)(h3: -(2 ^ 62)≤hi)(h4:hi < 2 ^ 62)
  (q:R (DL lo (hi - lo).toNat) H):wpAny (model X.prog X.w) X.A (pyIter (.ref s.heap.objs.size)) (PIE X pins σ tg R) E { s with heap:=s.heap.push { cls:= .type "range",data:= .fields #[.int lo t,.int hi u,.int 1 v] },toks:=tk }:=by
 refine wpAny_pyIter_range (IsRange.new ..) (small_one h1 h2 h3 h4) ?_
 have I1:Inv X pins σ H { s with heap:=s.heap.push { cls:= .type "range",data:= .fields #[.int lo t,.int hi u,.int 1 v] },toks:=tk }:=I.kept fun b o e=>Heap.get?_push_of_some _ e
 refine ⟨(s.heap.push { cls:= .type "range",data:= .fields #[.int lo t,.int hi u,.int 1 v] }).objs.size,[(s.heap.push { cls:= .type "range",data:= .fields #[.int lo t,.int hi u,.int 1 v] }).objs.size],_,_,H,rfl,
  I1.kept (t':=tk) fun b o e=>Heap.get?_push_of_some _ e,tS _ lo (hi - lo).toNat,?_,fun b hb=> ?_,q⟩
 ·have e1:lo+((0:Nat):Int) * 1=lo:=by simp
  have e2:(((hi - lo).toNat:Nat):Int) - ((0:Nat):Int)=Builtin.Range.rangeSize lo hi 1:=by rw [rangeSize_one]; split <;> omega
  show IsRangeIter _ _ (lo+((0:Nat):Int) * 1) ((((hi - lo).toNat:Nat):Int) - ((0:Nat):Int)) 1
  rw [e1,e2]
  exact Heap.get?_push_size _ rfl
 ·have e:b=(s.heap.push { cls:= .type "range",data:= .fields #[.int lo t,.int hi u,.int 1 v] }).objs.size:=by simpa using hb
  subst e
  exact I1.fpOk (Nat.le_refl _) (I1.hok.fresh (Nat.le_refl _))
noncomputable def Eh (ta:TA):TI:=fun σ H R=>ta σ H fun vs H1=>∃ j:Int,vs=[.int j]∧ -(2 ^ 62)≤j∧j < 2 ^ 62∧R (DL 0 j.toNat) H1
noncomputable def Ei (ta:TA):TI:=fun σ H R=>ta σ H fun vs H1=>∃ i j:Int,vs=[.int i,.int j]∧(-(2 ^ 62)≤i∧i < 2 ^ 62∧ -(2 ^ 62)≤j∧j < 2 ^ 62)∧R (DL i (j - i).toNat) H1
theorem oR {a:Expr}{ta:TA}{p pos:Pos}(hg:Gl X "range")(hm:X.mg "range" =none)(ha:PA X [a] ta)(hs:starEach [a] X.env=[(false,eval a X.env)]:=by rfl):PI X tg (.Call (.Name "range" p) [a] [] pos) (Eh ta):=by
 intro pins s σ H R I h
 refine Call_ (kW I hg hm boot_range (PyProof.Rows.callWith_type1 (aW (ha pos pins s σ H _ I h) fun us s1 hZ46=> ?_) hs rfl))
 refine cps fun PP kP=> ?_
 obtain ⟨vs,H1,I1,r1,q1⟩:=hZ46
 obtain ⟨j,e,q1,q2,q⟩:=q1
 refine kP ?_; clear kP PP
 subst e
 cases r1 with
 | cons r rr=>
  cases rr
  obtain ⟨t,rfl⟩:=r
  exact call_range_1 (rJ I1 (by omega) (by omega) q1 q2 (by simpa using q))
theorem v8 {a b:Expr}{ta:TA}{p pos:Pos}(hg:Gl X "range")(hm:X.mg "range" =none)(ha:PA X [a,b] ta)(hs:starEach [a,b] X.env=[(false,eval a X.env),(false,eval b X.env)]:=by rfl)(hs2:starEach [b] X.env=[(false,eval b X.env)]:=by rfl) :
  PI X tg (.Call (.Name "range" p) [a,b] [] pos) (Ei ta):=by
 intro pins s σ H R I h
 refine Call_ (kW I hg hm boot_range (PyProof.Rows.callWith_type1 (aW (ha pos pins s σ H _ I h) fun us s1 hZ47=> ?_) (by rw [hs,hs2]) (by rw [hs2]; rfl)))
 refine cps fun PP kP=> ?_
 obtain ⟨vs,H1,I1,r1,q1⟩:=hZ47
 obtain ⟨i,j,e,⟨q1,q2,q3,q4⟩,q⟩:=q1
 refine kP ?_; clear kP PP
 subst e
 cases r1 with
 | cons r rr=>
  cases rr with
  | cons r' rr=>
   cases rr
   obtain ⟨t,rfl⟩:=r
   obtain ⟨t',rfl⟩:=r'
   exact call_range_2 (rJ I1 q1 q2 q3 q4 q)
noncomputable def m_ (fp:List Addr)(h:Heap):List (Addr×Obj):=fp.filterMap fun b=>(h.get? b).map fun o=>(b,o)
theorem gX {fp:List Addr}{h:Heap}{b:Addr}{o:Obj}(hb:b∈fp)(e:h.get? b=some o):(b,o)∈m_ fp h:=List.mem_filterMap.mpr ⟨b,hb,by rw [e]; rfl⟩
theorem vX {fp:List Addr}{h:Heap}{p:Addr×Obj}(hp:p∈m_ fp h):p.1∈fp∧h.get? p.1=some p.2:=by
 obtain ⟨b,hb,e⟩:=List.mem_filterMap.mp hp
 cases q:h.get? b with
 | none=>rw [q] at e; cases e
 | some o=>
  rw [q] at e
  have e':(b,o)=p:=Option.some.inj e
  subst e'
  exact ⟨hb,q⟩
theorem Inv.pinned {pins:List (Addr×Obj)}{σ:St}{H:Hp}{s:Shared}{fp:List Addr}(I:Inv X pins σ H s)(hf:∀ b∈fp,iA X pins H b)(ho:∀ b∈fp,∃ o,s.heap.get? b=some o∧∀ v,o.data≠ .cell v):Inv X (pins ++ m_ fp s.heap) σ H s:=
 I.pins_of fun p hp=>(List.mem_append.mp hp).elim (fun z=>I.pin p (List.mem_append_right _ z)) fun z=>by
  refine cps fun PP kP=> ?_
  obtain ⟨hb,e⟩:=vX z
  refine r_ (hf p.1 hb) fun f0 f1 f2 _=> ?_
  obtain ⟨o,e',d⟩:=ho p.1 hb
  refine kP ?_; clear kP PP
  rw [e] at e'; cases e'
  exact (sJ e f0 f1 f2 d)
theorem Inv.unpinned {pins pl:List (Addr×Obj)}{σ:St}{H:Hp}{s:Shared}(I:Inv X (pins ++ pl) σ H s):Inv X pins σ H s:=I.pins_of fun p hp=>I.pin p (List.mem_append_right _ (List.mem_append_left _ hp))
end
noncomputable abbrev R2:=V→V→Hp→VK→Prop
noncomputable def qz (X:Cx)(f:Value→Value→Sem Value)(r:R2):Prop:=
 ∀ (pins:List (Addr×Obj)) (s:Shared) (σ:St) (H:Hp) (x y:V) (v u:Value) (Q:VK),Inv X pins σ H s→RelV x v→RelV y u→r x y H Q→
  wpAny (model X.prog X.w) X.A (f v u) (EP X pins σ Q) X.xe s
noncomputable def HC (X:Cx)(f:Value→Sem Value)(r:V→Hp→VK→Prop):Prop:=
 ∀ (pins:List (Addr×Obj)) (s:Shared) (σ:St) (H:Hp) (x:V) (v:Value) (Q:VK),Inv X pins σ H s→RelV x v→r x H Q→
  wpAny (model X.prog X.w) X.A (f v) (EP X pins σ Q) X.xe s
noncomputable def eD (X:Cx)(f:Value)(r:List V→Hp→VK→Prop):Prop:=
 ∀ (pins:List (Addr×Obj)) (s:Shared) (σ:St) (H:Hp) (xs:List V) (us:List Value) (Q:VK),Inv X pins σ H s→Vals xs us→r xs H Q→
  wpAny (model X.prog X.w) X.A (call f us) (EP X pins σ Q) X.xe s
noncomputable def HG (r:R2)(ta tb:TE):TE:=fun σ H Q=>ta σ H fun x H1=>tb σ H1 fun y H2=>r x y H2 Q
noncomputable def rI (C:Int→Int→Prop)(g:Int→Int→V):R2:=fun x y H Q=>∃ i j,x= .int i∧y= .int j∧C i j∧Q (g i j) H
noncomputable def Br (g:Int→Int→V):R2:=fun x y H Q=>∃ i j,x= .int i∧y= .int j∧Q (g i j) H
noncomputable def rU (g:Int→V):V→Hp→VK→Prop:=fun x H Q=>∃ i,x= .int i∧Q (g i) H
section
variable{X:Cx}{a b c:Expr}{ta tb tc:TE}{pos:Pos}
theorem Gu (ha:PE X a ta)(hb:PE X b tb){pins:List (Addr×Obj)}{s:Shared}{σ:St}{H:Hp}{R:V→V→Hp→Prop}(I:Inv X pins σ H s)
  (h:ta σ H fun x H1=>tb σ H1 fun y H2=>R x y H2) {Q:Value→Shared→Prop} {f:Value→Value→Sem Value}
  (hf:∀ v u s2 x y H2,Inv X pins σ H2 s2→RelV x v→RelV y u→R x y H2→wpAny (model X.prog X.w) X.A (f v u) Q X.xe s2) :
  wpAny (model X.prog X.w) X.A (eval a X.env) (fun v s₁=>wpAny (model X.prog X.w) X.A (eval b X.env) (fun u s₂=>wpAny (model X.prog X.w) X.A (f v u) Q X.xe s₂) X.xe s₁) X.xe s:=by
 refine aW (ha pins s σ H _ I h) fun v s1 hZ48=> ?_
 obtain ⟨x,H1,I1,r1,q1⟩:=hZ48
 refine aW (hb pins s1 σ H1 _ I1 q1) fun u s2 hZ49=> ?_
 obtain ⟨y,H2,I2,r2,q2⟩:=hZ49
 exact hf v u s2 x y H2 I2 r1 r2 q2
theorem GT {f:Value→Value→Sem Value}{C:Int→Int→Prop}{g:Int→Int→Int}
  (rule:∀ (i j:Int) (t u:Tok) (s:Shared) (Q:Value→Shared→Prop) (E:Value→Shared→Prop),C i j→Q (.int (g i j) s.toks) { s with toks:=s.toks+1 }→wpAny (model X.prog X.w) X.A (f (.int i t) (.int j u)) Q E s) :
  qz X f (rI C fun i j=> .int (g i j)):=by
 intro pins s σ H x y v u Q I rx ry h
 refine cps fun PP kP=> ?_
 refine nZ (h) fun i j hS8 hS9 hc q=> ?_; subst hS8; subst hS9
 obtain ⟨t,rfl⟩:=rx
 obtain ⟨t',rfl⟩:=ry
 refine kP ?_; clear kP PP
 exact rule i j t t' s _ _ hc ⟨.int (g i j),H,I.tok _,⟨_,rfl⟩,q⟩
theorem Fv {f:Value→Value→Sem Value}{g:Int→Int→Int}
  (rule:∀ (i j:Int) (t u:Tok) (s:Shared) (Q:Value→Shared→Prop) (E:Value→Shared→Prop),Q (.int (g i j) s.toks) { s with toks:=s.toks+1 }→wpAny (model X.prog X.w) X.A (f (.int i t) (.int j u)) Q E s) :
  qz X f (Br fun i j=> .int (g i j)):=by
 intro pins s σ H x y v u Q I rx ry h
 refine cps fun PP kP=> ?_
 refine bp (h) fun i j hS10 hS11 q=> ?_; subst hS10; subst hS11
 obtain ⟨t,rfl⟩:=rx
 obtain ⟨t',rfl⟩:=ry
 refine kP ?_; clear kP PP
 exact rule i j t t' s _ _ ⟨.int (g i j),H,I.tok _,⟨_,rfl⟩,q⟩
theorem CJ {f:Value→Value→Sem Value}{g:Int→Int→Bool}
  (rule:∀ (i j:Int) (t u:Tok) (s:Shared) (Q:Value→Shared→Prop) (E:Value→Shared→Prop),Q (.bool (g i j)) s→wpAny (model X.prog X.w) X.A (f (.int i t) (.int j u)) Q E s) :
  qz X f (Br fun i j=> .bl (g i j)):=by
 intro pins s σ H x y v u Q I rx ry h
 refine cps fun PP kP=> ?_
 refine bp (h) fun i j hS12 hS13 q=> ?_; subst hS12; subst hS13
 obtain ⟨t,rfl⟩:=rx
 obtain ⟨t',rfl⟩:=ry
 refine kP ?_; clear kP PP
 exact rule i j t t' s _ _ ⟨.bl (g i j),H,I,rfl,q⟩
noncomputable def wy (i j:Int):Prop:=0 < j∧j < 1073741824
noncomputable def CMul (i j:Int):Prop:=(-(2 ^ 64) < i∧i < 2 ^ 64)∨(-(2 ^ 64) < j∧j < 2 ^ 64)
theorem CMul.ok {i j:Int}(h:CMul i j):IntMulOk i j:=by
 rcases h with ⟨h1,h2⟩ | ⟨h1,h2⟩
 ·exact .of_left (intBits_le_64 h1 h2)
 ·exact .of_right (intBits_le_64 h1 h2)
theorem CK:qz X (binaryOp .Add) (Br fun i j=> .int (i+j)):=Fv fun _ _ _ _ _ _ _ q=>add_int q
theorem CS:qz X (binaryOp .Sub) (Br fun i j=> .int (i - j)):=Fv fun _ _ _ _ _ _ _ q=>sub_int q
theorem CP:qz X (binaryOp .Mult) (rI CMul fun i j=> .int (i * j)):=GT fun _ _ _ _ _ _ _ hc q=>mul_int q hc.ok
theorem zX:qz X (binaryOp .FloorDiv) (rI wy fun i j=> .int (i / j)):=GT fun i j _ _ _ _ _ hc q=>by
 have h1:(0:Int) < j:=hc.1
 have h2:j < 1073741824:=hc.2
 exact floordiv_int (by omega) (by rw [Int.fdiv_eq_ediv_of_nonneg i (by omega)]; exact q) (.inl (PyProof.noPylong_small (by omega)))
theorem CO:qz X (binaryOp .Mod) (rI (fun _ j=>0 < j) fun i j=> .int (i % j)):=GT fun i j _ _ _ _ _ hc q=>by
 have h1:(0:Int) < j:=hc
 exact mod_int' (by omega) (by rw [Int.fmod_eq_emod_of_nonneg i (by omega)]; exact q)
theorem HU {f:Value→Sem Value}{g:Int→Int}
  (rule:∀ (i:Int) (t:Tok) (s:Shared) (Q:Value→Shared→Prop) (E:Value→Shared→Prop),Q (.int (g i) s.toks) { s with toks:=s.toks+1 }→wpAny (model X.prog X.w) X.A (f (.int i t)) Q E s) :
  HC X f (rU fun i=> .int (g i)):=by
 intro pins s σ H x v Q I rx h
 obtain ⟨i,rfl,q⟩:=h
 obtain ⟨t,rfl⟩:=rx
 exact rule i t s _ _ ⟨.int (g i),H,I.tok _,⟨_,rfl⟩,q⟩
theorem Dw:HC X (unaryOp .USub) (rU fun i=> .int (-i)):=HU fun _ _ _ _ _ q=>neg_int q
theorem Fy:qz X (compareOp .Lt) (Br fun i j=> .bl (decide (i < j))):=CJ fun _ _ _ _ _ _ _ q=>lt_int q
theorem Fx:qz X (compareOp .LtE) (Br fun i j=> .bl (decide (i≤j))):=CJ fun _ _ _ _ _ _ _ q=>le_int q
theorem Fw:qz X (compareOp .Gt) (Br fun i j=> .bl (decide (j < i))):=CJ fun _ _ _ _ _ _ _ q=>gt_int q
theorem ck (b:Expr){op:CmpOp}(h:op≠ .In:=by decide)(h2:op≠ .NotIn:=by decide):behindInMarks op b=false:=by
 have e1:(op == CmpOp.In)=false:=by cases op <;> first | rfl | exact absurd rfl h
 have e2:(op == CmpOp.NotIn)=false:=by cases op <;> first | rfl | exact absurd rfl h2
 cases b <;> simp [behindInMarks,e1,e2]
theorem qd:(sizeLine:Nat) < 2 ^ 63:=by rw [sizeLine_eq]; decide
theorem s9:qz X (binaryOp .Add) (fun x y H Q=>∃ i j,x= .str i∧y= .str j∧i.length+j.length≤sizeLine∧Q (.str (i ++ j)) H):=by
 intro pins s σ H x y v u Q I rx ry h
 refine cps fun PP kP=> ?_
 refine nZ (h) fun i j hS14 hS15 hz q=> ?_; subst hS14; subst hS15
 obtain ⟨t,rfl⟩:=rx
 obtain ⟨t',rfl⟩:=ry
 refine kP ?_; clear kP PP
 exact add_str (fun t' tk=>⟨.str (i ++ j),H,I.tok _,⟨_,rfl⟩,q⟩) hz
theorem kz {x:V}{us:List Value}(r:Vals [x] us):∃ u,us=[u]∧RelV x u:=by
 cases r with
 | cons r1 r2=>cases r2; exact ⟨_,rfl,r1⟩
theorem FQ {x y:V}{us:List Value}(r:Vals [x,y] us):∃ u w',us=[u,w']∧RelV x u∧RelV y w':=by
 cases r with
 | cons r1 r2=>
  cases r2 with
  | cons r3 r4=>cases r4; exact (du _ _ rfl r1 r3)
end
structure ObjM (h:Heap)(x dx C:Addr)(mA:Str→Option Value):Prop where
 obj:h.get? x=some (W.instObj C dx)
 ns:h.Ns1 dx mA
 ne:dx≠x
theorem vR {h:Heap}{dx:Addr}{mA:Str→Option Value}(n:h.Ns1 dx mA):∃ od,h.get? dx=some od∧∀ name,W.lookIn name od=some (mA name):=by
 refine iV (n) fun o es ep ho hd hk _ hm=> ?_
 refine ⟨o,ho,fun name=> ?_⟩
 have e:=hm name
 unfold nsFind findBy at e
 rw [← Array.find?_toList] at e
 unfold W.lookIn
 rw [hd]
 dsimp only
 split
 ·rename_i y q
  rw [q] at e
  exact congrArg some e
 ·rename_i q
  rw [q] at e
  have a:es.toList.any (·.refKey)=false:=by
   rw [List.any_eq_false]
   intro y hy
   obtain ⟨z,t,hkey⟩:=hk y (Array.mem_toList_iff.mp hy)
   simp [DictEntry.refKey,hkey]
  have a':¬ es.toList.any (·.refKey)=true:=by rw [a]; exact Bool.false_ne_true
  rw [if_neg a']
  exact congrArg some e
theorem ObjM.look {h:Heap}{x dx C:Addr}{mA:Str→Option Value}(I:ObjM h x dx C mA):∃ od,W.InstAt h x (W.instObj C dx) C (some od)∧∀ name,W.lookIn name od=some (mA name):=
 let ⟨od,ho,hl⟩:=vR I.ns
 ⟨od,⟨I.obj,rfl,rfl,ho⟩,hl⟩
section
variable{prog:Program}{w:World}{A:Around}{E:Value→Shared→Prop}{s:Shared}{K:W.Frag}{x dx C f:Addr}{mA:Str→Option Value}{name:Str}{v:Value}
theorem zC {expr:Bool}{Q:Value→Shared→Prop}(X:K.In s.heap)(I:ObjM s.heap x dx C mA)(hg:W.plainGet K C name=true)(hh:W.hasDictIn K C=true)
  (ha:W.findIn K (.ref C) name=some none) (hv:mA name=some v) (hv':W.handedIn v=true) (h:Q v { s with toks:=s.toks+1 }) :
  wpAny (model prog w) A (getAttr (.ref x) name expr) Q E s:=by
 obtain ⟨od,J,hl⟩:=I.look
 exact W.get_value X J (W.plainGet_of hg).1 (W.findObj_own hh ha rfl (by rw [hl,hv])) hv' h
theorem xg {pl:Sem Bool}{Q:Value×List Value→Shared→Prop}(X:K.In s.heap)(I:ObjM s.heap x dx C mA)(hg:W.plainGet K C name=true)
  (hf:W.findIn K (.ref C) name=some (some (.ref f))) (ht:W.isFn K (.ref f)=true) (hv:mA name=none) (h:Q (.ref f,[.ref x]) s) :
  wpAny (model prog w) A (getMethod (.ref x) name pl) Q E s:=by
 obtain ⟨od,J,hl⟩:=I.look
 exact W.method_fn X J (W.plainGet_of hg).1 (W.plainGet_of hg).2 hf (beq_iff_eq.mp ht) (by show (W.lookIn name od).map (·.isSome)=some false; rw [hl,hv]; rfl) h
theorem AF {ns:List Str}{Q:Unit→Shared→Prop}(X:K.In s.heap)(I:ObjM s.heap x dx C mA)
  (hs:W.findIn K (.ref C) "__setattr__" =some (some (.builtin "object.__setattr__"))) (hp:W.plainOver K C=true) (ht:W.takerIn K C name=some none) (hh:W.hasDictIn K C=true)
  (hw:PySem.Within mA ns) (hsz:ns.length≤sizeLine)
  (h:∀ h',ObjM h' x dx C (fun y=>if y=name then some v else mA y)→Heap.SameBut dx s.heap h'→Q () { s with heap:=h',toks:=s.toks+2 }) :
  wpAny (model prog w) A (setAttr (.ref x) name v) Q E s:=by
 obtain ⟨od,J,hl⟩:=I.look
 refine W.set_plain X J hs (W.osa_open (s:={ s with toks:=s.toks+1 }) (r:=none) X J hp ht fun b=> ?_)
 obtain ⟨cd,hc,hd'⟩:=W.any_some hh
 have hx:s.heap.get? x=some ⟨.ref C,some dx,.plain,#[]⟩:=I.obj
 refine wpAny_bind (wpAny_pure (wpAny_bind (wpAny_bind (wpAny_loadPart hx (wpAny_bind (W.Looks.here (s:={ s with toks:=s.toks+1 }) (W.looks_clsIn X hc) ?_))))))
 rw [hd']
 refine wpAny_pure (a:=some dx) (wpAny_bind (wpAny_pure (wpAny_bind ?_)))
 refine wpAny_nsSet1 (s:={ s with toks:=s.toks+1 }) I.ns fun h' hn2 hs2=> ?_
 refine nX (hn2.count (PySem.Within.cons name v hw)) fun oD esD epD hoD hdD hcD=> ?_
 refine wpAny_bind (wpAny_lookBehind hoD (by rw [hdD]; exact pastItsLine_dict (Nat.le_trans hcD (by rw [List.length_cons]; omega))) ?_)
 exact wpAny_pure (h _ ⟨(hs2.2 _ (Ne.symm I.ne)).trans I.obj,hn2,I.ne⟩ hs2)
theorem xC {R:Result→Shared→Prop}{vs:List Value}{kw:List (Str×Value)}(X:K.In s.heap)(hm:W.makesIn K C=true)
  (hi:W.findIn K (.ref C) "__init__" =some (some (.ref f))) (hf:W.typeIn K (.ref f)=some (.type "function"))
  (h:codeAny (model prog w) (A.under (.builtin "type.__call__" ⟨.ref C :: vs,kw⟩)) (.call (.ref f) ⟨.ref (s.heap.objs.size+1) :: vs,kw⟩) (W.InitBack (s.heap.objs.size+1) R)
   { s with heap:=(s.heap.push W.emptyDict).push (W.instObj C s.heap.objs.size) }) :
  codeAny (model prog w) A (.call (.ref C) ⟨vs,kw⟩) R s:=by
 obtain ⟨hh,g,d,t,os⟩:=s
 exact W.make_core (W.makes_of X hm) (W.looks_findIn X hi) (fun self=>W.bind_fn X self hf) (.inl rfl) h
end
noncomputable def g0 (f:Str)(v:V):List (Str×V)→List (Str×V)
 | []=>[(f,v)]
 | (g,x) :: r=>if g=f then (g,v) :: r else (g,x) :: g0 f v r
theorem lu (f g:Str)(v:V):∀ fs:List (Str×V),(g0 f v fs).lookup g=if g=f then some v else fs.lookup g
 | []=>by
  show List.lookup g [(f,v)]=_
  by_cases h:g=f
  ·have p:(g == f)=true:=beq_iff_eq.mpr h
   simp only [List.lookup,p,if_pos h]
  ·have p:(g == f)=false:=beq_eq_false_iff_ne.mpr h
   simp only [List.lookup,p,if_neg h]
 | (k,x) :: r=>by
  have ih:=lu f g v r
  rw [show g0 f v ((k,x) :: r)=(if k=f then (k,v) :: r else (k,x) :: g0 f v r) from rfl]
  by_cases hk:k=f
  ·rw [if_pos hk]
   by_cases h:g=k
   ·have p:(g == k)=true:=beq_iff_eq.mpr h
    simp only [List.lookup,p,if_pos (h.trans hk)]
   ·have p:(g == k)=false:=beq_eq_false_iff_ne.mpr h
    simp only [List.lookup,p,if_neg (fun e:g=f=>h (e.trans hk.symm))]
  ·rw [if_neg hk]
   by_cases h:g=k
   ·have p:(g == k)=true:=beq_iff_eq.mpr h
    simp only [List.lookup,p,if_neg (fun e:g=f=>hk (h.symm.trans e))]
   ·have p:(g == k)=false:=beq_eq_false_iff_ne.mpr h
    simp only [List.lookup,p]
    exact ih
theorem kU (f:Str)(v:V):∀ fs:List (Str×V),f∈(g0 f v fs).map (·.1)∧∀ g,g∈fs.map (·.1)→g∈(g0 f v fs).map (·.1)
 | []=>⟨by simp [g0],fun g h=>by simp at h⟩
 | (k,x) :: r=>by
  obtain ⟨i1,i2⟩:=kU f v r
  rw [show g0 f v ((k,x) :: r)=(if k=f then (k,v) :: r else (k,x) :: g0 f v r) from rfl]
  by_cases hk:k=f
  ·rw [if_pos hk]
   subst hk
   exact ⟨by simp,fun g h=>by simpa using h⟩
  ·rw [if_neg hk]
   refine ⟨?_,fun g h=> ?_⟩
   ·rw [List.map_cons]
    exact cI i1
   ·rw [List.map_cons] at h ⊢
    rcases List.mem_cons.mp h with e | e
    ·exact List.mem_cons.mpr (.inl e)
    ·exact cI (i2 g e)
theorem lq (f:Str)(v:V):∀ fs:List (Str×V),(g0 f v fs).length≤fs.length+1
 | []=>by simp [g0]
 | (k,x) :: r=>by
  have ih:=lq f v r
  rw [show g0 f v ((k,x) :: r)=(if k=f then (k,v) :: r else (k,x) :: g0 f v r) from rfl]
  by_cases hk:k=f
  ·rw [if_pos hk,List.length_cons,List.length_cons]; omega
  ·rw [if_neg hk,List.length_cons,List.length_cons]; omega
theorem RelO.some_of {v:V}{o:Option Value}(r:RelO (some v) o):∃ u,o=some u∧RelV v u:=by
 cases o with
 | none=>exact (show False from r).elim
 | some u=>exact ⟨u,rfl,r⟩
theorem RelO.none_of {o:Option Value}(r:RelO none o):o=none:=by
 cases o with
 | none=>rfl
 | some u=>exact (show False from r).elim
theorem vG {v:V}{u:Value}(r:RelV v u):W.handedIn u=true:=by
 cases v with
 | non=>cases (show u=Value.none from r); rfl
 | bl b=>cases (show u=Value.bool b from r); rfl
 | int i=>obtain ⟨t,e⟩:=(show ∃ t,u=Value.int i t from r); cases e; rfl
 | str x=>obtain ⟨t,e⟩:=(show ∃ t,u=Value.str x t from r); cases e; rfl
 | byt b=>obtain ⟨t,e⟩:=(show ∃ t,u=Value.bytes b t from r); cases e; rfl
 | flt b=>obtain ⟨t,e⟩:=(show ∃ t,u=Value.float b t from r); cases e; rfl
 | ref a=>cases (show u=Value.ref a from r); rfl
 | ty n=>cases (show u=Value.type n from r); rfl
section
variable{P:Program}{w:World}{H H':Hp}{h h':Heap}{a C dx:Addr}{fs fs':List (Str×V)}
theorem pW (hok:HOk P w H h)(e:H a=some (.ins C dx fs)):∃ mA,ObjM h a dx C mA∧(∀ f,RelO (fs.lookup f) (mA f))∧PySem.Within mA (fs.map (·.1))∧fs.length≤1000∧H dx=some (.own a):=by
 refine Hk ((show ObjOk P w H h a (.ins C dx fs) from hok a _ e)) fun d z ne ob mA n r q=> ?_
 exact (ER mA ⟨ob,n,ne⟩ r q z d)
end
structure Cls (K:W.Frag)(C:Addr):Prop where
 pg:W.plainGet K C Str.empty=true
 hd:W.hasDictIn K C=true
 po:W.plainOver K C=true
 sa:W.findIn K (.ref C) "__setattr__" =some (some (.builtin "object.__setattr__"))
theorem Cls.get {K:W.Frag}{C:Addr}(c:Cls K C)(f:Str):W.plainGet K C f=true:=c.pg
noncomputable def NoAttr (K:W.Frag)(C:Addr)(f:Str):Prop:=W.findIn K (.ref C) f=some none
theorem NoAttr.taker {K:W.Frag}{C:Addr}{f:Str}(n:NoAttr K C f):W.takerIn K C f=some none:=by
 unfold W.takerIn
 rw [show W.findIn K (.ref C) f=some none from n]
 rfl
structure Meth (K:W.Frag)(C:Addr)(m:Str)(f:Addr):Prop where
 at_:W.findIn K (.ref C) m=some (some (.ref f))
 fn:W.isFn K (.ref f)=true
 kp:W.keepIn K (.ref f)=true
section
variable{X:Cx}{pins:List (Addr×Obj)}{σ:St}{H:Hp}{s:Shared}{a C dx:Addr}{fs:List (Str×V)}{f:Str}{v:V}{A:Around}{E:Value→Shared→Prop}
theorem sH {b:Bool}{Q:Value→Shared→Prop}(I:Inv X pins σ H s)(e:H a=some (.ins C dx fs))(c:Cls X.K C)(n:NoAttr X.K C f)(l:fs.lookup f=some v)
  (h:∀ u s',Inv X pins σ H s'→RelV v u→Q u s'):wpAny (model X.prog X.w) A (getAttr (.ref a) f b) Q E s:=by
 refine wo (pW I.hok e) fun mA O r _ _ _=> ?_
 obtain ⟨u,hu,ru⟩:=RelO.some_of (v:=v) (o:=mA f) (by rw [← l]; exact r f)
 exact zC I.kIn O (c.get f) c.hd n hu (vG ru) (h u _ (I.tok _) ru)
theorem sI {m:Str}{g:Addr}{pl:Sem Bool}{Q:Value×List Value→Shared→Prop}(I:Inv X pins σ H s)(e:H a=some (.ins C dx fs))(c:Cls X.K C)(k:Meth X.K C m g)(l:fs.lookup m=none)
  (h:Q (.ref g,[.ref a]) s):wpAny (model X.prog X.w) A (getMethod (.ref a) m pl) Q E s:=by
 refine wo (pW I.hok e) fun mA O r _ _ _=> ?_
 have hn:mA m=none:=RelO.none_of (by rw [← l]; exact r m)
 exact xg I.kIn O (c.get m) k.at_ k.fn hn h
theorem tK {y:V}{u:Value}{Q:Unit→Shared→Prop}(I:Inv X pins σ H s)(e:H a=some (.ins C dx fs))(c:Cls X.K C)(n:NoAttr X.K C f)(hl:fs.length < 1000)(ry:RelV y u)
  (h:∀ s',Inv X pins σ (bg H a (.ins C dx (g0 f y fs))) s'→Q () s'):wpAny (model X.prog X.w) A (setAttr (.ref a) f u) Q E s:=by
 refine wo (pW I.hok e) fun mA O r wi _ ho=> ?_
 have hz:(fs.map (·.1)).length≤sizeLine:=by rw [List.length_map,sizeLine_eq]; omega
 refine AF I.kIn O c.sa c.po n.taker c.hd wi hz fun h' O' sb=>h _ ?_
 have hd:∃ o,h'.get? dx=some o:=let ⟨o,_,_,e',_⟩:=O'.ns; ⟨o,e'⟩
 refine I.write (x:=a) (e:=dx) (by rw [e]; exact True.intro) (.inr ho) (fun b q hb z=>(sb.2 b hb).trans z) hd ?_
 refine (ES (by rw [ai O.ne]; exact ho) ?_ O.ne O'.obj _ O'.ns (fun g=> ?_) (fun g hg=> ?_))
 ·have:=lq f y fs; omega
 ·show RelO ((g0 f y fs).lookup g) (if g=f then some u else mA g)
  rw [lu]
  by_cases q:g=f
  ·rw [if_pos q,if_pos q]; exact ry
  ·rw [if_neg q,if_neg q]; exact r g
 ·by_cases q:g=f
  ·rw [q]; exact (kU f y fs).1
  ·refine (kU f y fs).2 g (wi g fun z=>hg ?_)
   show (if g=f then some u else mA g)=none
   rw [if_neg q]; exact z
theorem Inv.made (I:Inv X pins σ H s):Inv X pins σ (bg (bg H s.heap.objs.size (.own (s.heap.objs.size+1))) (s.heap.objs.size+1) (.ins C s.heap.objs.size []))
  { s with heap:=(s.heap.push W.emptyDict).push (W.instObj C s.heap.objs.size) }:=by
 have e1:(s.heap.push W.emptyDict).get? s.heap.objs.size=some W.emptyDict:=Heap.get?_push_size s.heap rfl
 have e2:((s.heap.push W.emptyDict).push (W.instObj C s.heap.objs.size)).get? (s.heap.objs.size+1)=some (W.instObj C s.heap.objs.size):=by
  have:=Heap.get?_push_size (s.heap.push W.emptyDict) (o:=W.instObj C s.heap.objs.size) rfl
  rwa [Heap.size_push] at this
 have e3:(s.heap.push W.emptyDict).Ns s.heap.objs.size (fun _=>none):=(jh W.emptyDict (#[]) _ e1 rfl ((fun e he=>absurd he (by simp))) (fun _=>rfl))
 have I1:=I.laid (a:=s.heap.objs.size) (o:= .own (s.heap.objs.size+1)) (h':=s.heap.push W.emptyDict) (t':=s.toks) (fun b u q=>Heap.get?_push_of_some _ q) (Nat.le_refl _) ⟨_,e1⟩
 refine I1.laid (a:=s.heap.objs.size+1) (o:= .ins C s.heap.objs.size []) (t':=s.toks) (fun b u q=>Heap.get?_push_of_some _ q) (Nat.le_of_eq (Heap.size_push _ _)) ?_
 have ne:s.heap.objs.size≠s.heap.objs.size+1:=Nat.ne_of_lt (Nat.lt_succ_self _)
 refine (ES (by rw [ai ne,ao]) (Nat.zero_le _) ne e2 (fun _=>none) ((Heap.Ns1.of_empty e3).at fun o q=>Heap.get?_push_of_some _ q) (fun _=>True.intro) (fun y hy=>absurd rfl hy))
theorem yW {prog:Program}{w:World}{env:Env}{e:Expr}{f:Str}{pos:Pos}{s:Shared}{Q:Value→Shared→Prop}(hb:attributeBase e f env (eval e env)=eval e env)
  (h:wpAny (model prog w) A (eval e env) (fun o s₁=>wpAny (model prog w) A (getAttr o f true) Q E s₁) E s):wpAny (model prog w) A (eval (.Attribute e f pos) env) Q E s:=
 Attribute_any_ h (by rw [arm_eval_Attribute,hb])
end
noncomputable def Hb (K:W.Frag)(ta:TE)(f:Str):TE:=fun σ H Q=>ta σ H fun x H1=>∃ a C dx fs v,x= .ref a∧H1 a=some (.ins C dx fs)∧Cls K C∧NoAttr K C f∧fs.lookup f=some v∧Q v H1
noncomputable def GZ (K:W.Frag)(ta tv:TE)(f:Str):TS:=fun D σ H=>tv σ H fun y H1=>ta σ H1 fun x H2=>∃ a C dx fs,x= .ref a∧H2 a=some (.ins C dx fs)∧Cls K C∧NoAttr K C f∧fs.length < 1000∧
 D.nx σ (bg H2 a (.ins C dx (g0 f y fs)))
section
variable{X:Cx}{o e value:Expr}{f:Str}{pos pos' tpos:Pos}{ta tv:TE}
theorem CY (he:PE X e ta)(hb:attributeBase e f X.env (eval e X.env)=eval e X.env):PE X (.Attribute e f pos) (Hb X.K ta f):=by
 intro pins s σ H Q I h
 refine yW hb (aW (he pins s σ H _ I h) fun u s1 hZ50=> ?_)
 obtain ⟨x,H1,I1,rx,a,C,dx,fs,v,ex,ea,c,n,l,q⟩:=hZ50
 subst ex
 obtain rfl:u=Value.ref a:=rx
 exact sH I1 ea c n l fun u' s2 I2 ru=>⟨v,H1,I2,ru,q⟩
theorem x8 (ha:PE X o ta)(hv:PE X value tv)(hs:swapsWith value (some (.Attribute o f pos')) pos.line X.env=pure false):PS X (.Assign [.Attribute o f pos'] value pos) (GZ X.K ta tv f):=by
 intro pins s σ H D I h
 refine plainObj_wpAny_Assign_Attribute (aW (hv pins s σ H _ I h) fun u s1 ⟨y,H1,I1,ry,q⟩=>aW (ha pins s1 σ H1 _ I1 q) fun ov s2 hZ52=> ?_) hs
 obtain ⟨x,H2,I2,rx,a,C,dx,fs,ex,ea,c,n,l,q2⟩:=hZ52
 subst ex
 obtain rfl:ov=Value.ref a:=rx
 exact tK I2 ea c n l ry fun s3 I3=>⟨σ,_,I3,q2⟩
end
section
variable{X:Cx}{pins:List (Addr×Obj)}{σ:St}{H:Hp}{s:Shared}{A:Around}{E:Value→Shared→Prop}{Q:Value→Shared→Prop}{c:Value}{b:Bool}
end
structure Room (k:Nat)(A:Around):Prop where
 hd:A.handled=none
 dp:A.depth+3 * k+5 < recursionLimit
 un:A.units+16 * k+200 < cLine
theorem Room.mono {j k:Nat}{A:Around}(r:Room k A)(h:j≤k):Room j A:=⟨r.hd,by have:=r.dp; omega,by have:=r.un; omega⟩
theorem Room.deeper {k:Nat}{A:Around}(r:Room (k+1) A)(env:Env):Room k (A.deeper env):=
 ⟨r.hd,by have:=r.dp; show A.depth+1+3 * k+5 < _; omega,by have:=r.un; show A.units+3+16 * k+200 < _; omega⟩
theorem sW {A:Around}{C:Addr}{us:List Value}{kw:List (Str×Value)}:(A.under (.builtin "type.__call__" ⟨.ref C :: us,kw⟩)).depth=A.depth+1:=by
 first | rfl | simp [Around.under,Code.weight,Code.isCreation,Code.isGuard,Code.isCaller,Code.frames,Code.isFrame,guardIds]
theorem sX {A:Around}{C:Addr}{us:List Value}{kw:List (Str×Value)}:(A.under (.builtin "type.__call__" ⟨.ref C :: us,kw⟩)).units=A.units+1:=by
 first | rfl | simp [Around.under,Code.cUnits,Code.frames,Code.isFrame]
theorem Room.make {k:Nat}{A:Around}(r:Room (k+1) A)(C:Addr)(us:List Value)(kw:List (Str×Value)):Room k (A.under (.builtin "type.__call__" ⟨.ref C :: us,kw⟩)):=
 ⟨r.hd,by have:=r.dp; rw [sW]; omega,by have:=r.un; rw [sX]; omega⟩
theorem Room.depth {k:Nat}{A:Around}(r:Room k A):A.depth < recursionLimit:=by have:=r.dp; omega
theorem Room.units {k:Nat}{A:Around}(r:Room k A):A.units+64 < cLine:=by have:=r.un; omega
noncomputable def Dr:TA:=fun _ H Q=>Q [] H
noncomputable def Bs (ta:TE)(tr:TA):TA:=fun σ H Q=>ta σ H fun x H1=>tr σ H1 fun xs H2=>Q (x :: xs) H2
section
variable{X:Cx}{e:Expr}{es:List Expr}{te:TE}{t:TA}{pos:Pos}
theorem fV:PA X [] Dr:=fun _ _ _ _ H Q I h=>Calls.spliced_nil ⟨[],H,I,.nil,h⟩
theorem df (ha:PE X e te)(hr:PA X es t)(hs:starEach (e :: es) X.env=(false,eval e X.env) :: starEach es X.env:=by rfl):PA X (e :: es) (Bs te t):=by
 intro pos pins s σ H Q I h
 rw [hs]
 show wpAny _ _ (spliced ((false,eval e X.env) :: backTo pos (starEach es X.env))) _ _ s
 refine Calls.spliced_cons (aW (ha pins s σ H _ I h) fun u s1 hZ53=> ?_)
 obtain ⟨x,H1,I1,r1,q1⟩:=hZ53
 exact aW (hr pos pins s1 σ H1 _ I1 q1) fun us s2 hZ54=>(by obtain ⟨xs,H2,I2,r2,q2⟩:=hZ54; exact ⟨x :: xs,H2,I2,.cons r1 r2,q2⟩)
noncomputable def Hg (t:TA):TE:=fun σ H Q=>t σ H fun xs H1=>xs.length≤sizeLine∧∀ p,H1 p=none→Q (.ref p) (bg H1 p (.tup xs))
noncomputable def Hc (t:TA):TE:=fun σ H Q=>t σ H fun xs H1=>xs.length≤sizeLine∧∀ p,H1 p=none→Q (.ref p) (bg H1 p (.lst xs))
theorem Db {x1}(h:PA X es t):PE X (.Tuple es x1 pos) (Hg t):=by
 intro pins s σ H Q I hq
 refine wpAny_Tuple_spliced (aW (h pos pins s σ H _ I hq) fun us s1 ⟨xs,H1,I1,r,z,q⟩=>⟨by rw [← r.length]; exact z,?_⟩)
 have hf:H1 s1.heap.objs.size=none:=I1.hok.fresh (Nat.le_refl _)
 refine ⟨.ref s1.heap.objs.size,bg H1 s1.heap.objs.size (.tup xs),I1.laid (t':=s1.toks) (fun b u e=>Heap.get?_push_of_some _ e) (Nat.le_refl _) ?_,rfl,q _ hf⟩
 exact (mM z us r (EO _ (Heap.get?_push_size _ rfl) rfl _ rfl))
theorem tm (h:PA X es t):PE X (.List es pos) (Hc t):=by
 intro pins s σ H Q I hq
 refine wpAny_List_spliced (aW (h pos pins s σ H _ I hq) fun us s1 ⟨xs,H1,I1,r,z,q⟩=>⟨by rw [← r.length]; exact z,?_⟩)
 have hf:H1 s1.heap.objs.size=none:=I1.hok.fresh (Nat.le_refl _)
 refine ⟨.ref s1.heap.objs.size,bg H1 s1.heap.objs.size (.lst xs),I1.laid (t':=s1.toks) (fun b u e=>Heap.get?_push_of_some _ e) (Nat.le_refl _) ?_,rfl,q _ hf⟩
 exact (mL z us 0 r (Heap.get?_push_size _ rfl))
end
noncomputable abbrev Sp:=List V→Hp→VK→XK→Prop
noncomputable abbrev qy:=List Env→Hp→Shared→XK→Value→Shared→Prop
structure Env0 (P:Program)(w:World)(K:W.Frag)(mg:Str→Option Value)(base:Heap)(A:Around)(outer:List Env)(s:Shared)(H:Hp):Prop where
 frames:A.frames=some outer
 mod:Mod K mg base
 bs:∀ b o,base.get? b=some o→s.heap.get? b=some o∧H b=none
 bsz:base.objs.size≤s.heap.objs.size
 funs:s.heap.FunFrames base outer
 frf:∀ b∈jC outer,H b=none
 hok:HOk P w H s.heap
 bare:AllBare s.gens
inductive CE (outer:List Env)(P:Program)(w:World)(H:Hp)(s:Shared)(Q:VK)(u:Value)(s':Shared):Prop
 | mk (v:V) (H':Hp) (o:s'.os=s.os) (g:AllBare s'.gens) (n:Un (jC outer) [] H H' s.heap s'.heap) (h:HOk P w H' s'.heap) (r:RelV v u) (q:Q v H')
noncomputable def CR (CX:qy)(outer:List Env)(P:Program)(w:World)(H:Hp)(s:Shared)(Q:VK)(E:XK)(r:Result)(s':Shared):Prop:=
 match r with
 | .ok (.ret u)=>CE outer P w H s Q u s'
 | .ok _=>False
 | .error e=>CX outer H s E e s'
structure FnOk (P:Program)(w:World)(K:W.Frag)(mg:Str→Option Value)(base:Heap)(CX:qy)(k:Nat)(f:Addr)(fd:FuncData)(ps:List Str)(sp:Sp):Prop where
 len:∀ vs H Q E,sp vs H Q E→vs.length=ps.length
 run:∀ (A:Around) (outer:List Env) (s:Shared) (H:Hp) (args:Args) (us:List Value) (vs:List V) (Q:VK) (E:XK),Room k A→Env0 P w K mg base A outer s H→BindsTo s fd args (ps.zip us)→Vals vs us→sp vs H Q E→
  codeAny (model P w) A (.call (.ref f) args) (CR CX outer P w H s Q E) s
theorem FnOk.imp {P:Program}{w:World}{K:W.Frag}{mg:Str→Option Value}{base:Heap}{CX:qy}{k:Nat}{f:Addr}{fd:FuncData}{ps:List Str}{sp sp':Sp}(F:FnOk P w K mg base CX k f fd ps sp)
  (h:∀ vs H Q E,sp' vs H Q E→sp vs H Q E):FnOk P w K mg base CX k f fd ps sp':=
 ⟨fun vs H Q E q=>F.len vs H Q E (h _ _ _ _ q),fun A outer s H args us vs Q E hr he hb hv hs=>F.run A outer s H args us vs Q E hr he hb hv (h _ _ _ _ hs)⟩
theorem Env0.make {P:Program}{w:World}{K:W.Frag}{mg:Str→Option Value}{base:Heap}{A:Around}{outer:List Env}{s:Shared}{H:Hp}(e:Env0 P w K mg base A outer s H)(C:Addr)(us:List Value)(kw:List (Str×Value)) :
  Env0 P w K mg base (A.under (.builtin "type.__call__" ⟨.ref C :: us,kw⟩)) outer s H:=⟨by first | exact e.frames | (simpa [Around.under,Code.envs,Code.isFrame,pushEnvs] using e.frames),e.mod,e.bs,e.bsz,e.funs,e.frf,e.hok,e.bare⟩
section
variable{X:Cx}{pins:List (Addr×Obj)}{σ:St}{H:Hp}{s s':Shared}
theorem Inv.env0 (I:Inv X pins σ H s):Env0 X.prog X.w X.K X.mg X.base X.A X.stack s H:=
 ⟨I.ok.frames,I.ok.mod,I.bs,Nat.le_trans I.ok.bsz I.sz,I.stack,I.stkFree,I.hok,I.bare⟩
theorem Inv.after {Q:VK}{u:Value}(I:Inv X pins σ H s)(h:CE X.stack X.prog X.w H s Q u s'):EP X pins σ Q u s':=by
 refine cps fun PP kP=> ?_
 obtain ⟨v,H',os,bare,un,hok,r,q⟩:=h
 obtain ⟨hh,g,d,t,os'⟩:=s'
 refine kP ?_; clear kP PP
 obtain rfl:os'=s.os:=os
 exact ⟨v,H',I.call (h':=hh) (g':=g) (d':=d) (t':=t) (ch:=[]) un hok bare (fun b z=>absurd z (by simp)),r,q⟩
end
noncomputable def FL (sp:Sp)(dvs:List V)(E:XK)(t:TA):TE:=fun σ H Q=>t σ H fun vs H1=>sp (vs ++ dvs) H1 Q E
noncomputable def Bv (C:Addr)(m:Str)(sp:Sp)(dvs:List V)(E:XK)(ta:TE)(t:TA):TE:=fun σ H Q=>ta σ H fun x H1=>∃ a dx fs,x= .ref a∧H1 a=some (.ins C dx fs)∧fs.lookup m=none∧
 t σ H1 fun vs H2=>sp (x :: (vs ++ dvs)) H2 Q E
noncomputable def Bu (C:Addr)(sp:Sp)(dvs:List V)(E:XK)(t:TA):TE:=fun σ H Q=>t σ H fun vs H1=>∀ x dx,H1 x=none→H1 dx=none→dx≠x→
 sp (.ref x :: (vs ++ dvs)) (bg (bg H1 dx (.own x)) x (.ins C dx [])) (fun v H2=>v= .non∧Q (.ref x) H2) E
noncomputable def Binds (K:W.Frag)(fd:FuncData)(ps:List Str)(ds:List Value):Prop:=
 ∀ (s:Shared) (us:List Value),K.In s.heap→(us ++ ds).length=ps.length→BindsTo s fd ⟨us,[]⟩ (ps.zip (us ++ ds))
theorem Binds.all {K:W.Frag}{fd:FuncData}{ps:List Str}(h:∀ us:List Value,us.length=ps.length→bindArgs fd ⟨us,[]⟩=pure (ps.zip us)):Binds K fd ps []:=fun s us _ hl=>by
 rw [List.append_nil] at hl ⊢
 exact .of_eq (h us hl)
noncomputable def cL (CX:qy)(X:Cx)(E:XK):Prop:=∀ (pins:List (Addr×Obj)) (σ:St) (H:Hp) (s:Shared) (e:Value) (s':Shared),Inv X pins σ H s→CX X.stack H s E e s'→X.xe e s'
section
variable{X:Cx}{CX:qy}{k:Nat}{f C:Addr}{fd:FuncData}{ps:List Str}{sp:Sp}{dvs:List V}{ds:List Value}{E:XK}{x m:Str}{p pos apos:Pos}{e o:Expr}{es:List Expr}{ta:TE}{t:TA}
theorem ym {pins:List (Addr×Obj)}{σ:St}{H:Hp}{s:Shared}{Q:VK}{us:List Value}{vs:List V}(F:FnOk X.prog X.w X.K X.mg X.base CX k f fd ps sp)(hr:Room k X.A)(hb:Binds X.K fd ps ds)(hd:Vals dvs ds)(hx:cL CX X E)
  (I:Inv X pins σ H s) (r:Vals vs us) (h:sp (vs ++ dvs) H Q E):wpAny (model X.prog X.w) X.A (call (.ref f) us) (EP X pins σ Q) X.xe s:=by
 have r2:Vals (vs ++ dvs) (us ++ ds):=r.append hd
 have hl:(us ++ ds).length=ps.length:=by rw [← r2.length]; exact F.len _ _ _ _ h
 refine wpAny_call (codeAny_mono (F.run X.A X.stack s H ⟨us,[]⟩ (us ++ ds) (vs ++ dvs) Q E hr I.env0 (hb s us I.kIn hl) r2 h) fun r s' hq=> ?_)
 cases r with
 | error e=>exact hx pins σ H s e s' I hq
 | ok fl=>
  cases fl with
  | ret u=>exact I.after hq
  | next=>exact False.elim hq
  | brk=>exact False.elim hq
  | cont=>exact False.elim hq
theorem Aa (F:FnOk X.prog X.w X.K X.mg X.base CX k f fd ps sp)(hr:Room k X.A)(hg:Gl X x)(hm:X.mg x=some (.ref f))(hk:W.keepIn X.K (.ref f)=true)(hb:Binds X.K fd ps ds)(hd:Vals dvs ds)(hx:cL CX X E)
  (ha:PA X (e :: es) t) (hdb:(x == ("__debug__" :Str))=false:=by decide) (he:starEach (e :: es) X.env=(false,eval e X.env) :: starEach es X.env:=by rfl) (hpl:(backTo pos (starEach es X.env)).any (·.1)=false:=by rfl) :
  PE X (.Call (.Name x p) (e :: es) [] pos) (FL sp dvs E t):=by
 intro pins s σ H Q I h
 refine wpAny_Call_Name_kw (qc I hg hm ?_ hdb)
 refine W.callWith_K (h₀:=X.base) I.ok.mod.kin hk (aW (ha pos pins s σ H _ I h) fun us s1 ⟨vs,H1,I1,r,q⟩=>⟨I1.kIn,?_⟩) he hpl
 exact ym F hr hb hd hx I1 r q
theorem xV {pl:Sem Bool}(he:PE X o ta)(c:Cls X.K C)(hm:Meth X.K C m f)(F:FnOk X.prog X.w X.K X.mg X.base CX k f fd ps sp)(hr:Room k X.A)(hb:Binds X.K fd ps ds)(hd:Vals dvs ds)(hx:cL CX X E)
  (ht:eval (.Call (.Attribute o m apos) [] [] pos) X.env=(do
   let ov ← eval o X.env
   standAt apos.atName
   let (f,first) ← holding [ov] (getMethod ov m pl)
   callWith pos f first (backTo pos (starEach [] X.env)) (backToKw pos (keywordEach [] X.env))):=by rfl) :
  PE X (.Call (.Attribute o m apos) [] [] pos) (Bv C m sp dvs E ta Dr):=by
 intro pins s σ H Q I h
 refine W.methodCall_KW (pl:=pl) (aW (he pins s σ H _ I h) fun u s1 hZ58=> ?_) ht
 obtain ⟨x,H1,I1,rx,a,dx,fs,ex,ea,l,q⟩:=hZ58
 subst ex
 obtain rfl:u=Value.ref a:=rx
 refine sI I1 ea c hm l ?_
 exact W.callWith_K0 (first:=[.ref a]) I1.kIn hm.kp (ym (us:=[.ref a]) (vs:=[.ref a]) F hr hb hd hx I1 (.cons rfl .nil) q)
structure Mk (K:W.Frag)(C f:Addr):Prop where
 makes:W.makesIn K C=true
 init:W.findIn K (.ref C) "__init__" =some (some (.ref f))
 fn:W.isFn K (.ref f)=true
 kp:W.keepIn K (.ref C)=true
theorem yn {pins:List (Addr×Obj)}{σ:St}{H:Hp}{s:Shared}{Q:VK}{us:List Value}{vs:List V}(M:Mk X.K C f)(F:FnOk X.prog X.w X.K X.mg X.base CX k f fd ps sp)(hr:Room (k+1) X.A)(hb:Binds X.K fd ps ds)(hd:Vals dvs ds)
  (hx:cL CX X E) (I:Inv X pins σ H s) (r:Vals vs us)
  (h:∀ x dx,H x=none→H dx=none→dx≠x→sp (.ref x :: (vs ++ dvs)) (bg (bg H dx (.own x)) x (.ins C dx [])) (fun v H2=>v= .non∧Q (.ref x) H2) E) :
  wpAny (model X.prog X.w) X.A (call (.ref C) us) (EP X pins σ Q) X.xe s:=by
 have hq:=h (s.heap.objs.size+1) s.heap.objs.size (I.hok.fresh (Nat.le_succ _)) (I.hok.fresh (Nat.le_refl _)) (Nat.ne_of_lt (Nat.lt_succ_self _))
 have I2:=Inv.made (C:=C) I
 have r2:Vals (V.ref (s.heap.objs.size+1) :: (vs ++ dvs)) (Value.ref (s.heap.objs.size+1) :: (us ++ ds)):= .cons rfl (r.append hd)
 have hl:(Value.ref (s.heap.objs.size+1) :: us ++ ds).length=ps.length:=by
  have e:=r2.length
  rw [F.len _ _ _ _ hq] at e
  exact e.symm
 refine wpAny_call (xC (f:=f) I.kIn M.makes M.init (beq_iff_eq.mp M.fn) (codeAny_mono (F.run _ X.stack _ _ ⟨Value.ref (s.heap.objs.size+1) :: us,[]⟩ (Value.ref (s.heap.objs.size+1) :: (us ++ ds)) _ _ E (hr.make C us [])
  (I2.env0.make C us []) (hb _ (Value.ref (s.heap.objs.size+1) :: us) I2.kIn hl) r2 hq) fun r s' q=> ?_))
 cases r with
 | error e=>exact hx pins σ _ _ e s' I2 q
 | ok fl=>
  cases fl with
  | ret u=>
   obtain ⟨v,H',I3,rv,ev,q3⟩:=I2.after q
   subst ev
   exact ⟨rv,⟨V.ref (s.heap.objs.size+1),H',I3,rfl,q3⟩⟩
  | next=>exact False.elim q
  | brk=>exact False.elim q
  | cont=>exact False.elim q
theorem Ac (M:Mk X.K C f)(F:FnOk X.prog X.w X.K X.mg X.base CX k f fd ps sp)(hr:Room (k+1) X.A)(hg:Gl X x)(hm:X.mg x=some (.ref C))(hb:Binds X.K fd ps ds)(hd:Vals dvs ds)(hx:cL CX X E)
  (ha:PA X (e :: es) t) (hdb:(x == ("__debug__" :Str))=false:=by decide) (he:starEach (e :: es) X.env=(false,eval e X.env) :: starEach es X.env:=by rfl) (hpl:(backTo pos (starEach es X.env)).any (·.1)=false:=by rfl) :
  PE X (.Call (.Name x p) (e :: es) [] pos) (Bu C sp dvs E t):=by
 intro pins s σ H Q I h
 refine wpAny_Call_Name_kw (qc I hg hm ?_ hdb)
 refine W.callWith_K (h₀:=X.base) I.ok.mod.kin M.kp (aW (ha pos pins s σ H _ I h) fun us s1 ⟨vs,H1,I1,r,q⟩=>⟨I1.kIn,?_⟩) he hpl
 exact yn M F hr hb hd hx I1 r q
end
section
variable{X:Cx}{CX:qy}{k:Nat}{f C:Addr}{fd:FuncData}{ps ks:List Str}{sp:Sp}{E:XK}{x m:Str}{p pos apos kpos:Pos}{e o:Expr}{es:List Expr}{kws:List Keyword}{te ta:TE}{t tk:TA}{nm:Option Str}
variable{g:List Value→List Value→List Value}{gV:List V→List V→List V}
end
structure FnScope (N P:List Str)(sc:Scope):Prop where
 kind:sc.kind= .function
 co:sc.isCoroutine=false
 gen:sc.isGenerator=false
 nd:N.Nodup
 pre:N.take P.length=P
 par:∀ x∈P,sc.names.lookup x=some .local∨sc.names.lookup x=some .cell
 nofree:∀ y∈sc.names,y.2≠ .free
theorem og {kindOf:Str→Option NameKind}{x:Str}:∀ {binds:List (Str×Value)} {m:Str→Option Value},(∀ v,(x,v)∉binds)→bindL kindOf binds m x=m x
 | [],_,_=>rfl
 | (n,v) :: r,m,h=>by
  unfold bindL
  rw [og fun w hw=>h w (cI hw)]
  split
  ·have:x≠n:=by rintro rfl; exact h v List.mem_cons_self
   simp [this]
  ·rfl
theorem oa {kindOf:Str→Option NameKind}{x:Str}:∀ {binds:List (Str×Value)} {m:Str→Option Value},(∀ v,(x,v)∉binds)→bindC kindOf binds m x=m x
 | [],_,_=>rfl
 | (n,v) :: r,m,h=>by
  unfold bindC
  rw [oa fun w hw=>h w (cI hw)]
  split
  ·rfl
  ·have:x≠n:=by rintro rfl; exact h v List.mem_cons_self
   simp [this]
theorem oe {kindOf:Str→Option NameKind}{x:Str}{v:Value}:∀ {P:List Str} {vs:List Value} {i:Nat} {m:Str→Option Value},P.Nodup→P[i]?=some x→vs[i]?=some v→kindOf x=some .local→
  bindL kindOf (P.zip vs) m x=some v
 | [],_,_,_,_,h,_,_=>by simp at h
 | _ :: _,[],_,_,_,_,h,_=>by simp at h
 | p :: P,w :: vs,0,m,nd,h1,h2,hk=>by
  simp at h1 h2; subst h1; subst h2
  show bindL kindOf ((p,w) :: P.zip vs) m p=_
  unfold bindL
  rw [og fun v hv=>(List.nodup_cons.mp nd).1 (List.of_mem_zip hv).1,if_pos hk]
  simp
 | p :: P,w :: vs,i+1,m,nd,h1,h2,hk=>by
  show bindL kindOf ((p,w) :: P.zip vs) m x=_
  unfold bindL
  exact oe (i:=i) (List.nodup_cons.mp nd).2 (by simpa using h1) (by simpa using h2) hk
theorem n_ {kindOf:Str→Option NameKind}{x:Str}{v:Value}:∀ {P:List Str} {vs:List Value} {i:Nat} {m:Str→Option Value},P.Nodup→P[i]?=some x→vs[i]?=some v→kindOf x≠some .local→
  bindC kindOf (P.zip vs) m x=some v
 | [],_,_,_,_,h,_,_=>by simp at h
 | _ :: _,[],_,_,_,_,h,_=>by simp at h
 | p :: P,w :: vs,0,m,nd,h1,h2,hk=>by
  simp at h1 h2; subst h1; subst h2
  show bindC kindOf ((p,w) :: P.zip vs) m p=_
  unfold bindC
  rw [oa fun v hv=>(List.nodup_cons.mp nd).1 (List.of_mem_zip hv).1,if_neg hk]
  simp
 | p :: P,w :: vs,i+1,m,nd,h1,h2,hk=>by
  show bindC kindOf ((p,w) :: P.zip vs) m x=_
  unfold bindC
  exact n_ (i:=i) (List.nodup_cons.mp nd).2 (by simpa using h1) (by simpa using h2) hk
noncomputable def fM (N:List Str)(vs:List V):St:=vs.map some ++ List.replicate (N.length - vs.length) none
noncomputable def qK (CX:qy)(P:Program)(w:World)(K:W.Frag)(mg:Str→Option Value)(base:Heap)(N:List Str)(qual:Str)(scope:Scope)(f:Addr)(cd:Value)(A:Around)(outer:List Env)(s:Shared)(H:Hp)(E:XK):Cx where
 prog:=P
 w:=w
 K:=K
 mg:=mg
 base:=base
 A:=A.deeper (envOfC qual scope s.heap.objs.size f cd)
 N:=N
 s₀:=s
 H₀:=H
 env:=envOfC qual scope s.heap.objs.size f cd
 outer:=outer
 stack:=envOfC qual scope s.heap.objs.size f cd :: outer
 ex:=[]
 calm:=true
 fn:=fun _=>true
 pn:=[]
 xe:=fun e s'=>wpAny (model P w) (A.deeper (envOfC qual scope s.heap.objs.size f cd)) (leaving (envOfC qual scope s.heap.objs.size f cd) e) (fun _ s''=>CX outer H s E e s'') (fun e' s''=>CX outer H s E e' s'') s'
theorem qH {sc:Scope}{n:Nat}{x:Str}(h:sc.names.lookup x=some .cell):∃ c,(cellsFrom n sc.names []).lookup x=some c:=by
 have q:=W.cellsFrom_some sc.names n [] (.inl h)
 exact Option.isSome_iff_exists.mp q
theorem vI {CX:qy}{P:Program}{w:World}{K:W.Frag}{mg:Str→Option Value}{base:Heap}{N ps:List Str}{qual:Str}{scope:Scope}{f:Addr}{cd:Value}{A:Around}{outer:List Env}{s s1:Shared}{H:Hp}{E:XK}{us:List Value}{vs:List V}
  (S:FnScope N ps scope) (hd:A.handled=none) (e0:Env0 P w K mg base A outer s H) (hl:vs.length=ps.length) (r:Vals vs us)
  (x:InCallC s s.heap.objs.size (bindL (envOfC qual scope s.heap.objs.size f cd).kindOf (ps.zip us) fun _=>none) (cellsFrom (s.heap.objs.size+1) scope.names []) (bindC (envOfC qual scope s.heap.objs.size f cd).kindOf (ps.zip us) fun _=>none) s1) :
  Inv (qK CX P w K mg base N qual scope f cd A outer s H E) [] (fM N vs) H s1:=by
 have hpl:ps.length≤N.length:=by have:=congrArg List.length S.pre; rw [List.length_take] at this; omega
 refine lh (x.done) fun h1 tk hS16 hk=> ?_; subst hS16
 have noA:∀ b:Addr,b∉(qK CX P w K mg base N qual scope f cd A outer s H E).ex:=fun b z=>absurd (show b∈([]:List Addr) from z) (by simp)
 refine ⟨⟨e0.mod,S.kind,rfl,rfl,Nat.le_refl _,fun y z c h1 t=> ?_,fun y hy=> ?_,fun y c _ h=> ?_,fun _=>hd,Around.frames_deeper e0.frames,.inr ⟨rfl,rfl⟩,fun b z=>absurd z (noA b),e0.bs,e0.bsz,fun b _ _=>noA b,fun b z=>absurd z (noA b),e0.funs,e0.frf⟩,
  rfl,e0.bare,Un.kept hk,⟨_,x.toInCall.ns,fun i y v h1 t h3=> ?_⟩,fun y c h=>⟨_,x.cell y c h⟩,e0.hok.fresh (Nat.le_refl _),fun y c h=> ?_,fun p hp=>absurd (show p∈([]:List (Addr×Obj)) from hp) (by simp),e0.hok.kept hk,?_⟩
 ·exact name_of_addr x.apart (PySem.mem_of_lookup h1) (PySem.mem_of_lookup t)
 ·have hy:scope.names.lookup y=some .cell∨scope.names.lookup y=some .free:=hy
  rcases hy with hy | hy
  ·exact qH hy
  ·exact absurd rfl (S.nofree _ (PySem.mem_of_lookup hy))
 ·exact Nat.le_of_lt (x.above y c (PySem.mem_of_lookup h))
 ·have hi:i < vs.length:=by
   unfold fM at t
   by_cases hi:i < vs.length
   ·exact hi
   ·rw [List.getElem?_append_right (by simpa using hi)] at t
    rw [List.getElem?_replicate] at t
    split at t <;> cases t
  have ha:vs[i]?=some v:=by
   unfold fM at t
   rw [List.getElem?_append_left (by simpa using hi),List.getElem?_map] at t
   cases e:vs[i]? with
   | none=>rw [e] at t; cases t
   | some a=>rw [e] at t; cases t; rfl
  obtain ⟨u,hu,rv⟩:=r.get ha
  have hp:ps[i]?=some y:=by
   rw [← S.pre,List.getElem?_take_of_lt (by omega)]; exact h1
  have ndP:ps.Nodup:=by rw [← S.pre]; exact S.nd.sublist (List.take_sublist _ _)
  refine ⟨u,rv,?_⟩
  rcases S.par y (List.mem_of_getElem? hp) with k | k
  ·exact .inl ⟨k,oe ndP hp hu k⟩
  ·obtain ⟨c,e⟩:=qH (n:=s.heap.objs.size+1) k
   refine .inr (mM (.inl k) c e ?_)
   have q:=x.cell y c e
   rw [n_ ndP hp hu (by show scope.names.lookup y≠_; rw [k]; decide)] at q
   exact q
 ·exact e0.hok.fresh (Nat.le_of_lt (x.above y c (PySem.mem_of_lookup h)))
 ·unfold fM
  show _=N.length
  rw [List.length_append,List.length_map,List.length_replicate]
  omega
theorem w9 {CX:qy}{P:Program}{w:World}{K:W.Frag}{mg:Str→Option Value}{base:Heap}{k:Nat}{f:Addr}{name qual:Str}{params:Arguments}{body:List Stmt}{scope:Scope}{dV kV doc pm cdv ct oc:Value}{an od:Option Addr}
  {osl:Array (Option Value)} {N ps:List Str} {sp:Sp} (lk:K.lookup f=some ⟨oc,od,.func (W.fnOf name qual params body scope dV kV doc pm an cdv ct),osl⟩) (hcd:W.codeIn K cdv qual=true) (S:FnScope N ps scope)
  (len:∀ vs H Q E,sp vs H Q E→vs.length=ps.length)
  (hbody:∀ (A:Around) (outer:List Env) (s:Shared) (H:Hp) (vs:List V) (Q:VK) (E:XK),Room k (A.deeper (envOfC qual scope s.heap.objs.size f cdv))→sp vs H Q E→
   ∃ t,DO (qK CX P w K mg base N qual scope f cdv A outer s H E) body t∧t { nx:=fun _ H'=>Q .non H',rt:=Q } (fM N vs) H) :
  FnOk P w K mg base CX (k+1) f (W.fnOf name qual params body scope dV kV doc pm an cdv ct) ps sp:=by
 refine ⟨len,fun A outer s H args us vs Q E hr e0 hb r hsp=> ?_⟩
 have hl:=len _ _ _ _ hsp
 have KX:K.In s.heap:=e0.mod.kin.keeps fun b o e=>(e0.bs b o e).1
 have lim:s.heap.NoLimit:=e0.mod.nolimit.keeps fun b o e=>(e0.bs b o e).1
 have hkind:∀ y∈ps.zip us,scope.names.lookup y.1=some .local∨(scope.names.lookup y.1=some .cell∧((cellsFrom (s.heap.objs.size+1) scope.names []).lookup y.1).isSome=true):=fun ⟨n,v⟩ hy=>by
  rcases S.par n (List.of_mem_zip hy).1 with q | q
  ·exact .inl q
  ·exact .inr ⟨q,W.cellsFrom_some _ _ _ (.inl q)⟩
 refine codeAny_call_function hr.depth (KX _ _ lk) rfl S.co S.gen rfl (W.codeRec_of KX hcd) (hb _ _ _ _ ?_)
 refine wpAny_newFunctionEnv_cells S.kind hkind fun env he s1 x=> ?_
 subst he
 refine ⟨lim.keeps x.toInCall.keep,codeAny_func ?_⟩
 obtain ⟨t,ht,hq⟩:=hbody A outer s H vs Q E (hr.deeper _) hsp
 have I:Inv (qK CX P w K mg base N qual scope f cdv A outer s H E) [] (fM N vs) H s1:=vI S hr.hd e0 hl r x
 refine wpAny_mono (ht [] s1 (fM N vs) H _ I hq) (fun fl s' hs=> ?_) fun e s' hs=>hs
 have fin:∀ {z:St} {H':Hp} {v:V} {u:Value},Inv (qK CX P w K mg base N qual scope f cdv A outer s H E) [] z H' s'→RelV v u→Q v H'→CE outer P w H s Q u s':=
  fun {z H' v u} J rv q=>⟨v,H',J.os,J.bare,J.base,J.hok,rv,q⟩
 cases fl with
 | ret u=>
  obtain ⟨v,z,H',J,rv,q⟩:=hs
  exact fin J rv q
 | next=>
  obtain ⟨z,H',J,q⟩:=hs
  exact fin (v:=V.non) (u:=Value.none) J rfl q
 | brk=>
  obtain ⟨_,_,_,q⟩:=hs
  exact False.elim q
 | cont=>
  obtain ⟨_,_,_,q⟩:=hs
  exact False.elim q
section
variable{X:Cx}{x:Str}{p pos:Pos}{e:Expr}{es:List Expr}{t:TA}{id T:String}{r:List V→Hp→VK→Prop}
noncomputable def Ha (r:List V→Hp→VK→Prop)(t:TA):TE:=fun σ H Q=>t σ H fun vs H1=>r vs H1 Q
theorem rB (hc:eD X (.builtin id) r)(hg:Gl X x)(hm:X.mg x=none)(hv:bootBuiltins x=some (.builtin id))(ha:PA X (e :: es) t)(hn:x≠ "__name__" :=by decide)(hdb:(x == ("__debug__" :Str))=false:=by decide)
  (he:starEach (e :: es) X.env=(false,eval e X.env) :: starEach es X.env:=by rfl) (hpl:(backTo pos (starEach es X.env)).any (·.1)=false:=by rfl):PE X (.Call (.Name x p) (e :: es) [] pos) (Ha r t):=by
 intro pins s σ H Q I h
 refine wpAny_Call_Name_kw (kW I hg hm hv ?_ hn hdb)
 exact PyProof.Rows.callWith_builtin1 (aW (ha pos pins s σ H _ I h) fun us s1 hZ60=>(by obtain ⟨vs,H1,I1,r1,q1⟩:=hZ60; exact hc pins s1 σ H1 vs us Q I1 r1 q1)) he hpl
theorem eC (hc:eD X (.type T) r)(hg:Gl X x)(hm:X.mg x=none)(hv:bootBuiltins x=some (.type T))(ha:PA X (e :: es) t)(hn:x≠ "__name__" :=by decide)(hdb:(x == ("__debug__" :Str))=false:=by decide)
  (he:starEach (e :: es) X.env=(false,eval e X.env) :: starEach es X.env:=by rfl) (hpl:(backTo pos (starEach es X.env)).any (·.1)=false:=by rfl):PE X (.Call (.Name x p) (e :: es) [] pos) (Ha r t):=by
 intro pins s σ H Q I h
 refine wpAny_Call_Name_kw (kW I hg hm hv ?_ hn hdb)
 exact PyProof.Rows.callWith_type1 (aW (ha pos pins s σ H _ I h) fun us s1 hZ61=>(by obtain ⟨vs,H1,I1,r1,q1⟩:=hZ61; exact hc pins s1 σ H1 vs us Q I1 r1 q1)) he hpl
end
end L2
namespace HT
open PySem PyProof.Rows
noncomputable def a_:List Int→List Int→Bool
 | [],[]=>false
 | [],_ :: _=>true
 | _ :: _,[]=>false
 | x :: xs,y :: ys=>if x=y then a_ xs ys else decide (x < y)
theorem gS (x y:Int)(xs ys:List Int):a_ (x :: xs) (y :: ys)=if x=y then a_ xs ys else decide (x < y):=rfl
theorem ji:a_ [] []=false:=rfl
theorem iL (y:Int)(ys:List Int):a_ [] (y :: ys)=true:=rfl
theorem iK (x:Int)(xs:List Int):a_ (x :: xs) []=false:=rfl
theorem wQ (A:Around)(s:Shared)(a:Int)(t:Tok)(c:Int)(u:Tok):∃ e,SeqAt.EqAt A s (.int a t) (.int c u) e∧(e=true↔a=c):=
 ⟨(a == c),SeqAt.EqAt.int_int a t c u,by simp⟩
theorem ye (A:Around)(s:Shared)(a:Int)(t:Tok)(c:Int)(u:Tok)(prog:Program)(w:World)(E:Value→Shared→Prop)(Q:Value→Shared→Prop)(h:Q (.bool (decide (a < c))) s) :
  wpAny (model prog w) A (richCompare .Lt (.int a t) (.int c u)) Q E s:=
 (PyProof.Rows.lt_int h:wpAny (model prog w) A (compareOp .Lt (.int a t) (.int c u)) Q E s)
section
open PySem.SeqAt
open PySem.AutoSeq1 (wpAny_loadPart')
open PySem.MeetsSeq PySem.MeetsSeq2 PySem.MeetsSeq3
theorem nT (l b:Addr)(items items2:Array Value)(n n2:Nat)(dd dd2:Option Addr)(sl sl2:Array (Option Value))(ns ms:List Int)(hi:IntsAre items.toList ns)(hj:IntsAre items2.toList ms) :
  Meets (Builtin.«tuple.__lt__» ⟨[.ref l,.ref b],[]⟩)
   (fun _ R s=>s.heap.get? l=some { cls:= .type "tuple",dict:=dd,data:= .seq items n,slots:=sl }∧s.heap.get? b=some { cls:= .type "tuple",dict:=dd2,data:= .seq items2 n2,slots:=sl2 }∧
    R (.ok (.ret (.bool (a_ ns ms)))) s):=
 .of_wp fun prog w A R s h=>by
  obtain ⟨hp,g,d,tk,os⟩:=s; obtain ⟨hl,hb,h⟩:=h
  have f2:=AutoSeq1.sub_tuple_tuple
  have z1:items.size=ns.length:=by rw [← hi.length]; simp
  have z2:items2.size=ms.length:=by rw [← hj.length]; simp
  wp_walk using wpAny_loadPart' hl,wpAny_loadPart' hb,wpAny_forIn_list _ (fun rest b s'=>b.1=none∧s'=⟨hp,g,d,tk,os⟩∧∃ (vs ws:List Value) (B z:List Int),rest=vs.zip ws∧
   IntsAre vs B∧IntsAre ws z∧B.length+items2.size=z.length+items.size∧R (.ok (.ret (.bool (a_ B z)))) ⟨hp,g,d,tk,os⟩) _
  case turn=>
   rintro ⟨y,x⟩ rest b s' ⟨hb',rfl,vs,ws,B,z,C,hvi,D,v,hR⟩
   cases hvi with
   | nil=>rw [List.zip_nil_left] at C; cases C
   | cons a t hvi'=>
    cases D with
    | nil=>rw [List.zip_nil_right] at C; cases C
    | cons c u hwi'=>
     rw [List.zip_cons_cons] at C
     injection C with hyx hrest
     injection hyx with hy hx
     subst hy hx
     rw [gS] at hR
     simp only [List.length_cons] at v
     obtain ⟨e,he,hiff⟩:=wQ A.in1 ⟨hp,g,d,tk,os⟩ a t c u
     refine wpAny_bind (he prog w _ _ ?_)
     cases e with
     | true=>
      rw [if_pos (hiff.mp rfl)] at hR
      wp_walk
      exact (ET rfl rfl _ _ _ _ hrest hvi' hwi' (by omega) hR)
     | false=>
      rw [if_neg (fun q=>absurd (hiff.mpr q) Bool.false_ne_true)] at hR
      have hri:=ye A.in1 ⟨hp,g,d,tk,os⟩ a t c u prog w
      wp_walk using hri
      exact ⟨_,rfl,by simpa using hR⟩
  case fin=>
   rintro ⟨b1,b2⟩ s' ⟨hb',rfl,vs,ws,B,z,C,hvi,D,v,hR⟩
   simp only at hb'
   subst hb'
   have hv:a_ B z=decide (items.size < items2.size):=by
    cases hvi with
    | nil=>
     cases D with
     | nil=>
      simp only [List.length_nil] at v
      rw [ji]
      exact (decide_eq_false (by omega)).symm
     | cons c u hw=>
      simp only [List.length_nil,List.length_cons] at v
      rw [iL]
      exact (decide_eq_true (by omega)).symm
    | cons a t hv=>
     cases D with
     | nil=>
      simp only [List.length_nil,List.length_cons] at v
      rw [iK]
      exact (decide_eq_false (by omega)).symm
     | cons c u hw=>
      rw [List.zip_cons_cons] at C
      cases C
   rw [hv] at hR
   wp_walk
   exact ⟨_,rfl,by simpa [Builtin.Tuple.tupleCompareSizes] using hR⟩
  case h=>
   exact (ET rfl rfl items.toList items2.toList ns ms rfl hi hj (by omega) h)
end
section
variable{prog:Program}{w:World}{A:Around}{E:Value→Shared→Prop}{s:Shared}
theorem sV {l b:Addr}{items items2:Array Value}{ns ms:List Int}{Q:Value→Shared→Prop}(hl:IsTup s.heap l items)(hb:IsTup s.heap b items2)(hi:IntsAre items.toList ns)(hj:IntsAre items2.toList ms)
  (hu:A.units < cLine) (h:Q (.bool (a_ ns ms)) s):wpAny (model prog w) A (compareOp .Lt (.ref l) (.ref b)) Q E s:=by
 refine cps fun PP kP=> ?_
 refine wq (id hl) fun hS17 ho hc n hd=> ?_; obtain ⟨cls,dd,data,sl⟩:=hS17
 refine wq (id hb) fun hS18 ho2 hc2 n2 hd2=> ?_; obtain ⟨cls2,dd2,data2,sl2⟩:=hS18
 refine kP ?_; clear kP PP
 simp only at hc hd hc2 hd2
 subst hc hd hc2 hd2
 exact richCompare_meets_room (op:= .Lt) ⟨_,ho,rfl⟩ ⟨_,ho2,rfl⟩ PySem.F.slot_tuple_lt PySem.F.entry_tuple_lt (PySem.F.args_tuple_lt_2 _ _) (nT l b items items2 n n2 dd dd2 sl sl2 ns ms hi hj)
  ⟨ho,ho2,show Value.bool (a_ ns ms)≠Value.notImplemented∧Q (.bool (a_ ns ms)) s from ⟨(fun x=>nomatch x),h⟩⟩ hu
noncomputable def cv (n d:Nat):Option Int→Nat
 | none=>d
 | some v=>if v < 0 then (v+(n:Int)).toNat else min v.toNat n
theorem AA (n d k:Nat):cv n d (some (k:Int))=min k n:=by
 show (if (k:Int) < 0 then ((k:Int)+(n:Int)).toNat else min (k:Int).toNat n)=min k n
 rw [if_neg (by omega),Int.toNat_natCast]
theorem Do (n d:Nat)(hd:d≤n)(o:Option Int):cv n d o≤n:=by
 cases o with
 | none=>exact hd
 | some v=>
  show (if v < 0 then (v+(n:Int)).toNat else min v.toNat n)≤n
  by_cases hv:v < 0
  ·rw [if_pos hv]; omega
  ·rw [if_neg hv]; exact Nat.min_le_right _ _
theorem ue (v:Int)(n d:Nat):(if v < 0 then max (v+(n:Int)) 0 else min v (n:Int))=((cv n d (some v):Nat):Int):=by
 show (if v < 0 then max (v+(n:Int)) 0 else min v (n:Int))=(((if v < 0 then (v+(n:Int)).toNat else min v.toNat n):Nat):Int)
 by_cases hv:v < 0
 ·simp only [if_pos hv]; omega
 ·simp only [if_neg hv]; omega
theorem sr (lo hi:Option Int)(n:Nat):Builtin.Slice.sliceAdjust lo hi 1 (n:Int)=(((cv n 0 lo:Nat):Int),((cv n n hi:Nat):Int)):=by
 have h1:¬ ((1:Int) < 0):=by omega
 unfold Builtin.Slice.sliceAdjust
 simp only [h1,if_false]
 refine Prod.ext ?_ ?_
 ·cases lo with
  | none=>rfl
  | some v=>exact ue v n 0
 ·cases hi with
  | none=>rfl
  | some v=>exact ue v n n
theorem tw (i j:Nat):Builtin.Slice.slicePlaces (i:Int) (j:Int) 1=j - i:=by
 unfold Builtin.Slice.slicePlaces
 have h1:(1:Int) > 0:=by omega
 simp only [h1,if_true,Int.ediv_one]
 split <;> omega
theorem np {v:Value}{o:Option Int}{Q:Option Int→Shared→Prop}(p:IsPart v o)(h:Q o s):wpAny (model prog w) A (Builtin.Slice.slicePartIndex v) Q E s:=by
 cases p with
 | none=>exact slicePart_none h
 | int i t=>exact slicePart_int h
theorem la {sl:Addr}{vl vu:Value}{lo hi:Option Int}{n:Nat}{Q:Int×Int×Nat→Shared→Prop}(hs:s.heap.IsSliceOf sl vl vu .none)(pl:IsPart vl lo)(pu:IsPart vu hi)
  (h:Q (((cv n 0 lo:Nat):Int),1,cv n n hi - cv n 0 lo) s):wpAny (model prog w) A (Builtin.Slice.sliceApplied (.ref sl) (pure (n:Int))) Q E s:=by
 refine cw (id hs) fun os hos hcs hds=> ?_
 unfold Builtin.Slice.sliceApplied Builtin.Slice.sliceFields
 refine wpAny_bind (wpAny_bind (wpAny_field hos hds (x:=vl) rfl (wpAny_bind (wpAny_field hos hds (x:=vu) rfl (wpAny_bind (wpAny_field hos hds (x:= .none) rfl (wpAny_pure ?_)))))))
 refine wpAny_bind (slicePart_none ?_)
 show wpAny _ _ (if ((1:Int) == 0)=true then _ else _) _ _ s
 rw [if_neg (by decide)]
 refine wpAny_bind (np pl (wpAny_bind (np pu (wpAny_bind (wpAny_pure ?_)))))
 show wpAny _ _ (match Builtin.Slice.sliceAdjust lo hi 1 (n:Int) with | (lo,hi)=>pure (lo,(1:Int),Builtin.Slice.slicePlaces lo hi 1)) _ _ s
 rw [sr lo hi n]
 show wpAny _ _ (pure (((cv n 0 lo:Nat):Int),(1:Int),Builtin.Slice.slicePlaces ((cv n 0 lo:Nat):Int) ((cv n n hi:Nat):Int) 1)) _ _ s
 rw [tw]
 exact wpAny_pure h
theorem xW (xs:Array Value)(i k:Nat):((List.range k).filterMap fun (m:Nat)=>xs[((i:Int)+(m:Int) * 1).toNat]?).toArray=((xs.toList.drop i).take k).toArray:=by
 have e:(fun (m:Nat)=>xs[((i:Int)+(m:Int) * 1).toNat]?)=fun m=>xs[i+m]?:=by
  funext m
  have:((i:Int)+(m:Int) * 1).toNat=i+m:=by omega
  rw [this]
 rw [e]
 have:=pick_run xs i k
 rw [List.filterMap_map] at this
 have e2:((fun x=>xs[x]?) ∘ fun x=>i+x)=fun m=>xs[i+m]?:=rfl
 rw [e2] at this
 rw [this]
theorem j0 {t sl:Addr}{items:Array Value}{vl vu:Value}{lo hi:Option Int}{Q:Value→Shared→Prop}(ht:IsTup s.heap t items)(hs:s.heap.IsSliceOf sl vl vu .none)(pl:IsPart vl lo)(pu:IsPart vu hi)
  (hw:¬ (cv items.size 0 lo=0∧cv items.size items.size hi=items.size))
  (h:Q (.ref s.heap.objs.size) { s with heap:=s.heap.push { cls:= .type "tuple",data:= .seq ((items.toList.drop (cv items.size 0 lo)).take (cv items.size items.size hi - cv items.size 0 lo)).toArray } })
  (hsz:items.size≤sizeLine):wpAny (model prog w) A (getItem (.ref t) (.ref sl)) Q E s:=by
 have y:sizeOk (.seq ((items.toList.drop (cv items.size 0 lo)).take (cv items.size items.size hi - cv items.size 0 lo)).toArray):=by
  show ((items.toList.drop (cv items.size 0 lo)).take (cv items.size items.size hi - cv items.size 0 lo)).toArray.size≤sizeLine
  rw [List.size_toArray,List.length_take,List.length_drop,Array.length_toList]
  omega
 have hj:cv items.size items.size hi≤items.size:=Do _ _ (Nat.le_refl _) hi
 refine cw (id hs) fun os hos hcs hds=> ?_
 have hTs:s.TypeIs (.ref sl) "slice" :=⟨os,hos,hcs⟩
 unfold getItem
 try with_reducible refine wpAny_holding ?_
 first | refine wpAny_bind (wpAny_pure ?_) | skip
 refine wpAny_bind (wpAny_sequenceKey ht.typeIs (by decide) ?_)
 refine wpAny_bind (wpAny_callSpecial?_slot (name:=Str.ofString "__getitem__") ht.typeIs PyProof.Rows.slot_tuple_getitem
  (wpAny_call_entry PyProof.Rows.slot_tuple_getitem ht.typeIs entry_tuple_getitem ?_ (args_tuple_getitem _ _)))
 show wpAny _ _ (Builtin.Tuple.tupleItemsOf (.ref t) >>= _) _ _ s
 refine wpAny_bind (tupleItemsOf_ ht ?_)
 refine wpAny_bind (wpAny_typeOf hTs ?_)
 rw [if_pos (by decide)]
 refine wpAny_bind (la hs pl pu ?_)
 have hno:¬ ((((cv items.size 0 lo:Nat):Int) == 0 && (1:Int) == 1 && (cv items.size items.size hi - cv items.size 0 lo) == items.size)=true):=by
  intro q
  rw [Bool.and_eq_true,Bool.and_eq_true] at q
  have q1:((cv items.size 0 lo:Nat):Int)=0:=eq_of_beq q.1.1
  have q2:cv items.size items.size hi - cv items.size 0 lo=items.size:=eq_of_beq q.2
  exact hw ⟨by omega,by omega⟩
 show wpAny _ _ (if (((cv items.size 0 lo:Nat):Int) == 0 && (1:Int) == 1 && (cv items.size items.size hi - cv items.size 0 lo) == items.size)=true then _ else _) _ _ s
 rw [if_neg hno,xW]
 first
  | exact wpAny_bind (m:=Builtin.Tuple.tupleExact _) (wpAny_newObj_type (wpAny_pure ⟨_,rfl,wpAny_pure h⟩) y)
  | exact wpAny_bind (m:=Builtin.Tuple.tupleExact _) (wpAny_newObj_type (wpAny_bind (wpAny_pure (wpAny_pure ⟨_,rfl,wpAny_pure h⟩))) y)
  | exact wpAny_bind (wpAny_bind (m:=Builtin.Tuple.tupleExact _) (wpAny_newObj_type (wpAny_pure (wpAny_pure ⟨_,rfl,wpAny_pure h⟩)) y))
  | exact wpAny_bind (wpAny_bind (m:=Builtin.Tuple.tupleExact _) (wpAny_newObj_type (wpAny_pure ⟨_,rfl,wpAny_pure h⟩) y))
end
end HT
namespace L2
open PySem PySem.Spec PyProof.Rows
noncomputable abbrev TO:=St→Hp→(Option Int→Hp→Prop)→Prop
noncomputable def PO (X:Cx)(e:Option Expr)(t:TO):Prop:=
 ∀ (pins:List (Addr×Obj)) (s:Shared) (σ:St) (H:Hp) (Q:Option Int→Hp→Prop),Inv X pins σ H s→t σ H Q→
  wpAny (model X.prog X.w) X.A (evalPart e X.env) (fun u s'=>∃ o H',Inv X pins σ H' s'∧IsPart u o∧Q o H') X.xe s
noncomputable def AM:TO:=fun _ H Q=>Q none H
noncomputable def FO (t:TE):TO:=fun σ H Q=>t σ H fun x H1=>∃ i,x= .int i∧Q (some i) H1
theorem gQ {ns:List Int}:∀ {us:List Value},Vals (ns.map V.int) us→IntsAre us ns:=by
 induction ns with
 | nil=>intro us r; rw [List.map_nil] at r; cases r; exact .nil
 | cons n ns ih=>
  intro us r
  rw [List.map_cons] at r
  cases r with
  | cons r1 r2=>
   obtain ⟨t,e⟩:=r1
   subst e
   exact .cons n t (ih r2)
section
variable{X:Cx}{e:Expr}{te:TE}{lo hi:Option Expr}{tl th:TO}{pos p2:Pos}
theorem Ap:PO X none AM:=by
 intro pins s σ H Q I h
 rw [evalPart_none]
 exact wpAny_pure (du none H I .none h)
theorem Aq (h:PE X e te):PO X (some e) (FO te):=by
 intro pins s σ H Q I hw
 rw [evalPart_some]
 refine aW (h pins s σ H _ I hw) fun u s1 hZ62=> ?_
 refine cps fun PP kP=> ?_
 obtain ⟨x,H1,I1,r1,q1⟩:=hZ62
 obtain ⟨i,rfl,q⟩:=q1
 obtain ⟨t,rfl⟩:=r1
 refine kP ?_; clear kP PP
 exact (du (some i) H1 I1 (.int i t) q)
noncomputable def SlR (X:Cx)(r:V→Option Int→Option Int→Hp→VK→Prop):Prop:=
 ∀ (pins:List (Addr×Obj)) (s:Shared) (σ:St) (H:Hp) (x:V) (v vl vu:Value) (lo hi:Option Int) (sl:Addr) (Q:VK),Inv X pins σ H s→RelV x v→s.heap.IsSliceOf sl vl vu .none→IsPart vl lo→IsPart vu hi→r x lo hi H Q→
  ∃ T id,typeLookup (.type T) "__getitem__" =pure (some (.builtin id))∧s.TypeIs v T∧wpAny (model X.prog X.w) X.A (getItem v (.ref sl)) (EP X pins σ Q) X.xe s
theorem SlR.or {r r':V→Option Int→Option Int→Hp→VK→Prop}(h:SlR X r)(h':SlR X r'):SlR X (fun x lo hi H Q=>r x lo hi H Q∨r' x lo hi H Q):=by
 intro pins s σ H x v vl vu lo hi sl Q I rx hs pl pu q
 rcases q with q | q
 ·exact h pins s σ H x v vl vu lo hi sl Q I rx hs pl pu q
 ·exact h' pins s σ H x v vl vu lo hi sl Q I rx hs pl pu q
noncomputable def HS (r:V→Option Int→Option Int→Hp→VK→Prop)(te:TE)(tl th:TO):TE:=fun σ H Q=>te σ H fun x H1=>tl σ H1 fun l H2=>th σ H2 fun u H3=>r x l u H3 Q
theorem rC {r:V→Option Int→Option Int→Hp→VK→Prop}(hr:SlR X r)(he:PE X e te)(hl:PO X lo tl)(hu:PO X hi th):PE X (.Subscript e (.Slice lo hi none p2) pos) (HS r te tl th):=by
 intro z s σ H Q I h
 refine Subscript_ (aW (he z s σ H _ I h) fun v s1 hZ63=> ?_)
 obtain ⟨x,H1,I1,r1,q1⟩:=hZ63
 refine wpAny_Slice (aW (hl z s1 σ H1 _ I1 q1) fun vl s2 ⟨l,H2,I2,pl,q2⟩=>aW (hu z s2 σ H2 _ I2 q2) fun vu B hZ65=> ?_)
 obtain ⟨u,H3,I3,pu,q3⟩:=hZ65
 rw [evalPart_none]
 refine wpAny_pure ?_
 have I4:Inv X z σ H3 { B with heap:=B.heap.push { cls:= .type "slice",data:= .fields #[vl,vu,.none] } }:=I3.kept (t':=B.toks) fun b ob q=>Heap.get?_push_of_some _ q
 refine bp (hr z { B with heap:=B.heap.push { cls:= .type "slice",data:= .fields #[vl,vu,.none] } } σ H3 x v vl vu l u B.heap.objs.size Q I4 r1 (Heap.IsSliceOf.new ..) pl pu q3) fun T id hT ht hg=> ?_
 show wpAny (model X.prog X.w) X.A (subscriptTail e (.Slice lo hi none p2) v (.ref B.heap.objs.size)) (EP X z σ Q) X.xe { B with heap:=B.heap.push { cls:= .type "slice",data:= .fields #[vl,vu,.none] } }
 exact tail_any (ops:=[.ref B.heap.objs.size,v]) ht hT hg (by with_unfolding_all rfl)
noncomputable def qI (xs:List V)(lo hi:Option Int):List V:=(xs.drop (HT.cv xs.length 0 lo)).take (HT.cv xs.length xs.length hi - HT.cv xs.length 0 lo)
theorem li (xs:List V)(lo hi:Option Int):(qI xs lo hi).length≤xs.length:=by
 unfold qI
 rw [List.length_take,List.length_drop]
 omega
noncomputable def GY (K:W.Frag):V→Option Int→Option Int→Hp→VK→Prop:=fun x lo hi H Q=>∃ a xs,x= .ref a∧lL K H a xs∧
 ¬ (HT.cv xs.length 0 lo=0∧HT.cv xs.length xs.length hi=xs.length)∧∀ p,H p=none→Q (.ref p) (bg H p (.tup (qI xs lo hi)))
theorem yr:SlR X (GY X.K):=by
 intro pins s σ H x v vl vu lo hi sl Q I rx hs pl pu h
 refine nZ (h) fun a xs hS19 hx hw q=> ?_; subst hS19
 cases rx
 refine cw (I.tuple hx) fun its r ht hz=> ?_
 have t:its.toArray.size=xs.length:=by rw [List.size_toArray]; exact r.length.symm
 refine (du "tuple" _ PyProof.Rows.slot_tuple_getitem.lookup ht.typeIs ?_)
 refine HT.j0 ht hs pl pu (by rw [t]; exact hw) ?_ (by rw [t]; exact hz)
 rw [t]
 refine ⟨.ref s.heap.objs.size,_,I.laid (t':=s.toks) (o:= .tup (qI xs lo hi)) (fun b ob q=>Heap.get?_push_of_some _ q) (Nat.le_refl _) ?_,rfl,q _ (I.hok.fresh (Nat.le_refl _))⟩
 exact (mM (Nat.le_trans (li xs lo hi) hz) _ ((r.drop (HT.cv xs.length 0 lo)).take (HT.cv xs.length xs.length hi - HT.cv xs.length 0 lo)) (IsTup.new _ _))
end
noncomputable def q_ (n:Nat)(i:Int):Option Nat:=if 0≤i then (if i < n then some i.toNat else none) else if -(n:Int)≤i then some (i+n).toNat else none
noncomputable def atI {α:Type}(xs:List α)(i:Int):Option α:=(q_ xs.length i).bind fun j=>xs[j]?
theorem pY {n:Nat}{i:Int}{j:Nat}(h:q_ n i=some j):seqIndex? i n=some j∧j < n∧ -(n:Int)≤i∧i < n:=by
 unfold q_ at h
 by_cases h0:0≤i
 ·rw [if_pos h0] at h
  by_cases B:i < n
  ·rw [if_pos B] at h
   have e:i.toNat=j:=Option.some.inj h
   exact (nH (by rw [seqIndex_of h0 B,e]) (by omega) (by omega) B)
  ·rw [if_neg B] at h; cases h
 ·rw [if_neg h0] at h
  by_cases B: -(n:Int)≤i
  ·rw [if_pos B] at h
   have e:(i+n).toNat=j:=Option.some.inj h
   exact (nH (by rw [seqIndex_neg (by omega) B,e]) (by omega) B (by omega))
  ·rw [if_neg B] at h; cases h
theorem pk {α:Type}{xs:List α}{i:Int}{v:α}(h:atI xs i=some v):∃ j,seqIndex? i xs.length=some j∧xs[j]?=some v∧j < xs.length∧ -(xs.length:Int)≤i∧i < xs.length:=by
 unfold atI at h
 cases e:q_ xs.length i with
 | none=>rw [e] at h; cases h
 | some j=>
  rw [e] at h
  refine r_ (pY e) fun h1 h2 h3 h4=> ?_
  exact (ER j h1 h h2 h3 h4)
theorem ub {α:Type}{xs:List α}{j:Nat}{v:α}(h:xs[j]?=some v):atI xs (j:Int)=some v:=by
 have hj:j < xs.length:=(fG h).1
 have e:q_ xs.length (j:Int)=some j:=by
  unfold q_
  rw [if_pos (by omega),if_pos (by omega)]; simp
 unfold atI; rw [e]; exact h
theorem wF {α:Type}(xs:List α)(v:α):atI (xs ++ [v]) (-1)=some v:=by
 have hl:(xs ++ [v]).length=xs.length+1:=by simp
 have e:q_ (xs ++ [v]).length (-1)=some xs.length:=by
  unfold q_
  rw [hl,if_neg (by decide),if_pos (by omega)]
  congr 1
  omega
 unfold atI
 rw [e]
 show (xs ++ [v])[xs.length]?=some v
 simp
noncomputable def pi (b:Expr):Prop:=∀ o i,subscripted b false o i=operate [o,i] (getItem o i)
noncomputable def IxR (X:Cx)(r:R2):Prop:=
 ∀ (value slice:Expr) (pins:List (Addr×Obj)) (s:Shared) (σ:St) (H:Hp) (x y:V) (v u:Value) (Q:VK),Inv X pins σ H s→RelV x v→RelV y u→r x y H Q→
  subscripted slice false v u=operate [v,u] (getItem v u)→wpAny (model X.prog X.w) X.A (subscriptTail value slice v u) (EP X pins σ Q) X.xe s
noncomputable def yP (X:Cx)(id:String)(r:V→List V→Hp→VK→Prop):Prop:=
 ∀ (pins:List (Addr×Obj)) (s:Shared) (σ:St) (H:Hp) (x:V) (xs:List V) (v:Value) (us:List Value) (Q:VK),Inv X pins σ H s→RelV x v→Vals xs us→r x xs H Q→
  wpAny (model X.prog X.w) X.A (call (.builtin id) (v :: us)) (EP X pins σ Q) X.xe s
section
variable{X:Cx}{a b:Expr}{ta tb:TE}{pos:Pos}
theorem IxR.or {r r':R2}(h:IxR X r)(h':IxR X r'):IxR X (fun x y H Q=>r x y H Q∨r' x y H Q):=by
 intro D C pins s σ H x y v u Q I rx ry q hs
 rcases q with q | q
 ·exact h D C pins s σ H x y v u Q I rx ry q hs
 ·exact h' D C pins s σ H x y v u Q I rx ry q hs
theorem Bp {r:R2}(hr:IxR X r)(ha:PE X a ta)(hb:PE X b tb)(hs:pi b):PE X (.Subscript a b pos) (HG r ta tb):=by
 intro pins s σ H Q I h
 exact Subscript_ (Gu ha hb I h fun v u s2 x y H2 I2 rx ry q=>hr a b pins s2 σ H2 x y v u Q I2 rx ry q (hs _ _))
noncomputable def FE (K:W.Frag):R2:=fun x y H Q=>∃ p xs i v,x= .ref p∧y= .int i∧gs K H p xs∧atI xs i=some v∧Q v H
noncomputable def FG (K:W.Frag):R2:=fun x y H Q=>∃ p xs i v,x= .ref p∧y= .int i∧lL K H p xs∧atI xs i=some v∧Q v H
noncomputable def FF:R2:=fun x y H Q=>∃ z i c,x= .str z∧y= .int i∧z.length≤sizeLine∧atI z.cps.toList i=some c∧Q (.str ⟨#[c]⟩) H
theorem ix_list:IxR X (FE X.K):=by
 intro value slice pins s σ H x y v u Q I rx ry h hs
 refine DB (h) fun p xs i z hS20 hS21 hq he q=> ?_; subst hS20; subst hS21
 cases rx
 refine cps fun PP kP=> ?_
 obtain ⟨t,rfl⟩:=ry
 refine cw (I.list hq) fun its r pl hz=> ?_
 refine wo (pk he) fun j h1 h2 h3 h4 h5=> ?_
 obtain ⟨w,ew,rw'⟩:=r.get h2
 refine kP ?_; clear kP PP
 have hl:=r.length
 have hn:=qd
 have fin:EP X pins σ Q w s:=⟨z,H,I,rw',q⟩
 by_cases h0:0≤i
 ·have hj:i.toNat=j:=by
   rw [seqIndex_of h0 h5] at h1
   exact Option.some.inj h1
  exact item_listR pl.isList h0 (by omega) (by rw [hj]; simpa using ew) fin hs
 ·have hj:(i+(its.toArray.size:Int)).toNat=j:=by
   rw [seqIndex_neg (by omega) h4] at h1
   rw [List.size_toArray,← hl]
   exact Option.some.inj h1
  exact subscriptTail_builtinR (x:=w) pl.isList.typeIs slot_list_getitem.lookup
   (wpAny_getItem_list_neg (Q:=fun r s'=>r=w∧EP X pins σ Q r s') pl.isList (by omega) (by rw [List.size_toArray] <;> omega) (by omega) (by rw [hj]; simpa using ew) ⟨rfl,fin⟩) hs
theorem ix_tup:IxR X (FG X.K):=by
 intro value slice pins s σ H x y v u Q I rx ry h hs
 refine DB (h) fun p xs i z hS22 hS23 hq he q=> ?_; subst hS22; subst hS23
 cases rx
 refine cps fun PP kP=> ?_
 obtain ⟨t,rfl⟩:=ry
 refine cw (I.tuple hq) fun its r pl hz=> ?_
 refine wo (pk he) fun j h1 h2 h3 h4 h5=> ?_
 obtain ⟨w,ew,rw'⟩:=r.get h2
 refine kP ?_; clear kP PP
 have hl:=r.length
 have hn:=qd
 have fin:EP X pins σ Q w s:=⟨z,H,I,rw',q⟩
 exact subscriptTail_builtinR (x:=w) pl.typeIs slot_tuple_getitem.lookup
  (getItem_tuple (j:=j) (Q:=fun r s'=>r=w∧EP X pins σ Q r s') pl (by omega) (by omega) (by rw [List.size_toArray,← hl]; exact h1) (by simpa using ew) ⟨rfl,fin⟩) hs
theorem Ct:IxR X FF:=by
 intro value slice pins s σ H x y v u Q I rx ry h hs
 refine cps fun PP kP=> ?_
 refine iV (h) fun z i c hS24 hS25 hz he q=> ?_; subst hS24; subst hS25
 obtain ⟨t,rfl⟩:=rx
 obtain ⟨t',rfl⟩:=ry
 refine wo (pk he) fun j h1 h2 h3 h4 h5=> ?_
 refine kP ?_; clear kP PP
 have hl:z.cps.toList.length=z.length:=by simp [Str.length]
 rw [hl] at h1 h4 h5
 have hn:=qd
 exact tail_any (typeIs_str s z t) slot_str_getitem.lookup (getItem_str (c:=c) (by
  have e1:decide (i < -(2 ^ 63:Int))=false:=decide_eq_false (by omega)
  have e2:decide (i ≥ 2 ^ 63)=false:=decide_eq_false (by omega)
  rw [e1,e2,Bool.or_false]) (by rw [h1]; simpa using h2) ⟨.str ⟨#[c]⟩,H,I.tok _,⟨_,rfl⟩,q⟩) hs
noncomputable def HQ (K:W.Frag):R2:=fun x y H Q=>FE K x y H Q∨FG K x y H Q∨FF x y H Q
theorem Cs:IxR X (HQ X.K):=ix_list.or (ix_tup.or Ct)
theorem qu (lo hi:Option Int)(n:Nat):(sliceBounds lo hi none n).1=((HT.cv n 0 lo:Nat):Int)∧(sliceBounds lo hi none n).2.1=((HT.cv n n hi:Nat):Int)∧(sliceBounds lo hi none n).2.2=1:=by
 refine ⟨?_,?_,rfl⟩
 ·cases lo with
  | none=>simp [sliceBounds,HT.cv]
  | some i=>
   simp only [sliceBounds,HT.cv,Option.getD_none,show (1:Int) > 0 by decide,if_true]
   by_cases h:i < 0
   ·simp only [h,if_true] <;> omega
   ·simp only [h,if_false] <;> omega
 ·cases hi with
  | none=>simp [sliceBounds,HT.cv]
  | some i=>
   simp only [sliceBounds,HT.cv,Option.getD_none,show (1:Int) > 0 by decide,if_true]
   by_cases h:i < 0
   ·simp only [h,if_true] <;> omega
   ·simp only [h,if_false] <;> omega
theorem nS (its:List Value)(lo hi:Option Int):slicePick its.toArray lo hi none=((its.drop (HT.cv its.length 0 lo)).take (HT.cv its.length its.length hi - HT.cv its.length 0 lo)).toArray:=by
 obtain ⟨h1,h2,h3⟩:=qu lo hi its.toArray.size
 unfold slicePick
 rw [h1,h2,h3]
 simp only [sliceRange_one,pick_run,List.size_toArray] <;> rfl
noncomputable def GX (K:W.Frag):V→Option Int→Option Int→Hp→VK→Prop:=fun x lo hi H Q=>∃ a xs,x= .ref a∧gs K H a xs∧∀ p,H p=none→Q (.ref p) (bg H p (.lst (qI xs lo hi)))
theorem sl_list:SlR X (GX X.K):=by
 intro pins s σ H x v vl vu lo hi sl Q I rx hs pl pu h
 refine bp (h) fun a xs hS26 hx q=> ?_; subst hS26
 cases rx
 refine cw (I.list hx) fun its r ht hz=> ?_
 have hlen:=r.length
 refine (du "list" _ slot_list_getitem.lookup ht.isList.typeIs ?_)
 refine wpAny_getItem_list_slice ht.isList hs pl pu .none (by simp) ?_ (by rw [List.size_toArray] <;> omega)
 rw [nS,← hlen]
 refine ⟨.ref s.heap.objs.size,_,I.laid (t':=s.toks) (o:= .lst (qI xs lo hi)) (fun b ob q=>Heap.get?_push_of_some _ q) (Nat.le_refl _) ?_,rfl,q _ (I.hok.fresh (Nat.le_refl _))⟩
 exact (mL (Nat.le_trans (li xs lo hi) hz) _ 0 ((r.drop (HT.cv xs.length 0 lo)).take (HT.cv xs.length xs.length hi - HT.cv xs.length 0 lo)) (Heap.get?_push_size _ rfl))
theorem pq:eD X (.builtin "len") (fun xs H Q=>∃ p ys,xs=[.ref p]∧(gs X.K H p ys∨lL X.K H p ys)∧Q (.int ys.length) H):=by
 intro pins s σ H xs us Q I r h
 refine cps fun PP kP=> ?_
 refine bp (h) fun p ys hS27 hq q=> ?_; subst hS27
 obtain ⟨u,rfl,rx⟩:=kz r
 refine kP ?_; clear kP PP
 cases rx
 have hn:=qd
 rcases hq with hq | hq
 ·refine cw (I.list hq) fun its r' pl hz=> ?_
  have t:=r'.length
  exact Calls.call_len_list pl.isList (by simp only [List.size_toArray] <;> omega) ⟨.int ys.length,H,I.tok _,⟨s.toks+1,by rw [List.size_toArray,t]⟩,q⟩
 ·refine cw (I.tuple hq) fun its r' pl hz=> ?_
  have t:=r'.length
  exact len_tuple pl (by simp only [List.size_toArray] <;> omega) ⟨.int ys.length,H,I.tok _,⟨s.toks+1,by rw [List.size_toArray,t]⟩,q⟩
theorem jQ:eD X (.type "list") (fun xs H Q=>∃ p ys,xs=[.ref p]∧(gs X.K H p ys∨lL X.K H p ys)∧∀ l,H l=none→Q (.ref l) (bg H l (.lst ys))):=by
 intro pins s σ H xs us Q I r h
 refine cps fun PP kP=> ?_
 refine bp (h) fun p ys hS28 hq q=> ?_; subst hS28
 obtain ⟨u,rfl,rx⟩:=kz r
 refine kP ?_; clear kP PP
 cases rx
 have fin:∀ (E:List Value),Vals ys E→ys.length≤sizeLine→∀ (F:Heap) (c':Nat),(∀ b o',s.heap.get? b=some o'→F.get? b=some o')→
   F.get? s.heap.objs.size=some { cls:= .type "list",dict:=none,data:= .seq E.toArray c',slots:= #[] }→EP X pins σ Q (.ref s.heap.objs.size) { s with heap:=F }:=fun E r' hz F c' kp e=>
  ⟨.ref s.heap.objs.size,_,I.laid (t':=s.toks) kp (Nat.le_refl _) (show ObjOk X.prog X.w _ F _ (.lst ys) from (mL hz E c' r' e)),rfl,q _ (I.hok.fresh (Nat.le_refl _))⟩
 rcases hq with hq | hq
 ·refine cw (I.list hq) fun E r' pl hz=> ?_
  have hlen:=r'.length
  refine wq (pl.isList) fun o ho hc n hd=> ?_
  exact call_list_seq p (.inl rfl) ho hc hd (fun F c' kp e=>fin E r' hz F c' kp e) (by simp only [List.size_toArray] <;> omega)
 ·refine cw (I.tuple hq) fun E r' pl hz=> ?_
  have hlen:=r'.length
  refine wq (pl) fun o ho hc n hd=> ?_
  exact call_list_seq p (.inr rfl) ho hc hd (fun F c' kp e=>fin E r' hz F c' kp e) (by simp only [List.size_toArray] <;> omega)
theorem nD:eD X (.type "tuple") (fun xs H Q=>∃ p ys,xs=[.ref p]∧((gs X.K H p ys∧∀ l,H l=none→Q (.ref l) (bg H l (.tup ys)))∨(lL X.K H p ys∧Q (.ref p) H))):=by
 intro pins s σ H xs us Q I r h
 refine cps fun PP kP=> ?_
 obtain ⟨p,ys,rfl,h⟩:=h
 obtain ⟨u,rfl,rx⟩:=kz r
 refine kP ?_; clear kP PP
 cases rx
 rcases h with ⟨hq,q⟩ | ⟨hq,q⟩
 ·obtain ⟨its,r',pl,hz⟩:=I.list hq
  have hlen:=r'.length
  refine call_tuple_list pl.isList (fun h' kp=> ?_) (by simp only [List.size_toArray] <;> omega)
  have I1:Inv X pins σ H { s with heap:=h' }:=I.kept (t':=s.toks) kp
  have I2:Inv X pins σ (bg H h'.objs.size (.tup ys)) { s with heap:=h'.push { cls:= .type "tuple",data:= .seq its.toArray } }:=
   I1.laid (t':=s.toks) (fun b o e=>Heap.get?_push_of_some _ e) (Nat.le_refl _) (show ObjOk X.prog X.w _ _ _ (.tup ys) from ⟨hz,its,r',IsTup.new _ _⟩)
  exact ⟨.ref h'.objs.size,_,I2,rfl,q _ (I1.hok.fresh (Nat.le_refl _))⟩
 ·obtain ⟨its,r',pl,hz⟩:=I.tuple hq
  exact call_tuple_same pl ⟨.ref p,H,I,rfl,q⟩
noncomputable def HH (K:W.Frag)(T:String)(x:V)(H:Hp):Prop:=match x with
 | .str _=>T= "str"
 | .int _=>T= "int"
 | .ref p=>(T= "list" ∧∃ xs,gs K H p xs)∨(T= "tuple" ∧∃ o,K.lookup p=some o∧o.cls= .type "tuple" ∧o.dict=none)∨
   (T= "dict" ∧((∃ kvs,H p=some (.dK kvs))∨∃ kvs,H p=some (.dT kvs)))∨(T= "set" ∧∃ S n,H p=some (.set S n))
 | _=>False
theorem Dv {pins:List (Addr×Obj)}{σ:St}{H:Hp}{s:Shared}{T:String}{x:V}{v:Value}(I:Inv X pins σ H s)(r:RelV x v)(ty:HH X.K T x H) :
  s.TypeIs v T∧∀ a,v= .ref a→∃ ob,s.heap.get? a=some ob∧ob.dict=none:=by
 cases x with
 | str z=>
  obtain ⟨t,rfl⟩:=r
  cases (show T= "str" from ty)
  exact ⟨typeIs_str s z t,fun _ e=>nomatch e⟩
 | int i=>
  obtain ⟨t,rfl⟩:=r
  cases (show T= "int" from ty)
  exact ⟨typeIs_int s i t,fun _ e=>nomatch e⟩
 | ref p=>
  cases r
  rcases ty with ⟨rfl,xs,hq⟩ | ⟨rfl,o,G,hc,hd⟩ | ⟨rfl,G⟩ | ⟨rfl,S,n,G⟩
  ·refine cw (I.list hq) fun its _ pl _=> ?_
   refine ⟨pl.isList.typeIs,fun a e=> ?_⟩
   cases e
   refine nZ (pl) fun o n e c hd _=> ?_
   exact ⟨o,e,hd⟩
  ·refine ⟨⟨o,I.kIn p o G,hc⟩,fun a e=> ?_⟩
   cases e
   exact ⟨o,I.kIn _ o G,hd⟩
  ·have z:∃ o,s.heap.get? p=some o∧o.ExactDict:=by
    rcases G with ⟨kvs,G⟩ | ⟨kvs,G⟩
    ·refine FS (I.hok p _ G) fun _ _ _ _ o _ _ e J _=> ?_
     exact ⟨o,e,J⟩
    ·refine FS (I.hok p _ G) fun _ _ _ _ o _ _ e J _=> ?_
     exact ⟨o,e,J⟩
   obtain ⟨o,e,J⟩:=z
   refine ⟨⟨o,e,J.1⟩,fun a e2=> ?_⟩
   cases e2
   exact ⟨o,e,J.2.1⟩
  ·refine Hl (I.hok p _ G) fun o _ _ _ e J _=> ?_
   refine ⟨⟨o,e,J.1⟩,fun a e2=> ?_⟩
   cases e2
   exact ⟨o,e,J.2.1⟩
 | _=>exact False.elim ty
noncomputable def HR (K:W.Frag)(T:String)(r:V→List V→Hp→VK→Prop)(to:TE)(t:TA):TE:=fun σ H Q=>to σ H fun x H1=>HH K T x H1∧t σ H1 fun xs H2=>r x xs H2 Q
variable{o e:Expr}{es:List Expr}{to:TE}{t:TA}{name:Str}{apos cpos:Pos}{T id:String}{r:V→List V→Hp→VK→Prop}
theorem ly (pa:PlainAttrs T)(slot:Slot T name id)(hty:typeOf (.builtin id)=pure (.type "method_descriptor"))(hm:yP X id r)(ho:PE X o to)(ha:PA X (e :: es) t)
  (hbase:attributeBase o name X.env (eval o X.env)=eval o X.env:=by rfl)
  (hfew:((backTo cpos (starEach (e :: es) X.env)).all (fun x=> !x.1) && (backToKw cpos (keywordEach [] X.env)).all (fun x=>x.1.isSome)
   && decide ((e :: es).length+([]:List Keyword).length+(if ([]:List Keyword).isEmpty then 0 else 1) < 30))=true:=by rfl)
  (hline:(apos.endLine == cpos.line)=true:=by rfl) (hs:starEach (e :: es) X.env=(false,eval e X.env) :: starEach es X.env:=by rfl) (hplain:(backTo cpos (starEach es X.env)).any (·.1)=false:=by rfl) :
  PE X (.Call (.Attribute o name apos) (e :: es) [] cpos) (HR X.K T r to t):=by
 intro z s σ H Q I h
 refine wpAny_Call_method_late hbase hfew hline rfl (aW (ho z s σ H _ I h) fun v s1 hZ66=> ?_)
 refine cps fun PP kP=> ?_
 obtain ⟨x,H1,I1,r1,ty,q1⟩:=hZ66
 obtain ⟨h1,h2⟩:=Dv I1 r1 ty
 refine kP ?_; clear kP PP
 refine (EU T id pa slot hty h1 h2 ?_)
 have hA:=ha cpos z s1 σ H1 _ I1 q1
 rw [hs] at hA ⊢
 refine Calls.callWith_builtin (by show (false || (backTo cpos (starEach es X.env)).any (·.1))=false; rw [hplain] <;> rfl) (Calls.evalArgs_plain ?_)
 exact aW hA fun us s2 hZ67=>(by obtain ⟨vs,H2,I2,r2,q2⟩:=hZ67; exact hm z s2 σ H2 x vs v us Q I2 r1 r2 q2)
end
noncomputable def Gn (X:Cx)(id:String)(r:V→List V→Hp→VK→Prop):Prop:=
 ∀ (pins:List (Addr×Obj)) (s:Shared) (σ:St) (H:Hp) (x:V) (xs:List V) (v:Value) (us:List Value) (Q:VK),Inv X pins σ H s→RelV x v→Vals xs us→r x xs H Q→
  wpAny (model X.prog X.w) X.A (call (.builtin id) (v :: us)) (EP X pins σ Q) X.xe s
theorem Vals.one:∀ {x:V} {us:List Value},Vals [x] us→∃ u,us=[u]∧RelV x u
 | _,_,.cons r .nil=>⟨_,rfl,r⟩
theorem Vals.eraseIdx:∀ {xs:List V} {us:List Value} (i:Nat),Vals xs us→Vals (xs.eraseIdx i) (us.eraseIdx i)
 | _,_,_,.nil=> .nil
 | _,_,0,.cons _ t=>t
 | _,_,i+1,.cons r t=> .cons r (Vals.eraseIdx i t)
theorem Vals.rep {xs:List V}{us:List Value}(h:Vals xs us):∀ k:Nat,Vals (List.replicate k xs).flatten (List.replicate k us).flatten
 | 0=> .nil
 | k+1=>by
  rw [List.replicate_succ,List.replicate_succ,List.flatten_cons,List.flatten_cons]
  exact Vals.append h (Vals.rep h k)
theorem oF {α:Type}:∀ (l:List α) (i:Nat),(l.eraseIdx i).length≤l.length
 | [],_=>Nat.le_refl _
 | _ :: _,0=>Nat.le_succ _
 | _ :: r,i+1=>Nat.succ_le_succ (oF r i)
theorem oo (its:List Value):∀ (k:Nat) (acc:List Value),
  List.foldl (fun x1 x2=>x1 ++ x2) acc.toArray (List.replicate k its.toArray)=(acc ++ (List.replicate k its).flatten).toArray
 | 0,acc=>by simp
 | k+1,acc=>by
  have e:acc.toArray ++ its.toArray=(acc ++ its).toArray:=by simp
  have e2:(acc ++ its) ++ (List.replicate k its).flatten=acc ++ (List.replicate (k+1) its).flatten:=by
   rw [List.replicate_succ,List.flatten_cons,List.append_assoc]
  rw [← e2,← oo its k (acc ++ its),← e,List.replicate_succ,List.foldl_cons]
section
variable{X:Cx}{pins:List (Addr×Obj)}{σ:St}{H:Hp}{s:Shared}{l b:Addr}{xs ys zs:List V}
theorem Inv.lset {its its':List Value}{n:Nat}{f:Array Value→Array Value}{t':Nat}(I:Inv X pins σ H s)(hH:H l=some (.lst xs))
  (e:s.heap.get? l=some { cls:= .type "list",data:= .seq its.toArray n }) (hf:f its.toArray=its'.toArray) (hv:Vals ys its') (hz:ys.length≤sizeLine) :
  Inv X pins σ (bg H l (.lst ys)) { s with heap:=s.heap.update l (Obj.mapSeq f),toks:=t' }:=by
 have q:=PySem.IsL.update e f
 rw [hf] at q
 refine I.write (x:=l) (e:=l) (by rw [hH]; exact trivial) (.inl rfl) (fun b' u hb hu=>(Heap.get?_update_other s.heap (Obj.mapSeq f) (Ne.symm hb)).trans hu) ⟨_,q⟩ ?_
 exact (mL hz its' _ hv q)
theorem Inv.lnew {its:List Value}{t':Nat}(I:Inv X pins σ H s)(hv:Vals ys its)(hz:ys.length≤sizeLine) :
  Inv X pins σ (bg H s.heap.objs.size (.lst ys)) { s with heap:=s.heap.push { cls:= .type "list",data:= .seq its.toArray },toks:=t' }:=
 I.laid (fun _ _ q=>Heap.get?_push_of_some _ q) (Nat.le_refl _) (mL hz its 0 hv (Heap.get?_push_size _ rfl))
theorem Inv.fresh (I:Inv X pins σ H s):H s.heap.objs.size=none:=I.hok.fresh (Nat.le_refl _)
theorem Inv.lstM (I:Inv X pins σ H s)(hH:H l=some (.lst xs)):xs.length≤sizeLine∧∃ (its:List Value) (n:Nat),Vals xs its∧xs.length=its.length∧s.heap.get? l=some { cls:= .type "list",data:= .seq its.toArray n }:=by
 refine yK (I.hok l _ hH) fun z its n r e=> ?_
 exact (zF z its n r r.length e)
theorem rn {n:Nat}(h:n≤sizeLine):Builtin.List.listTooLong n=false:=by
 unfold Builtin.List.listTooLong
 exact decide_eq_false (by omega)
end
section
variable{X:Cx}
noncomputable def dk:V→List V→Hp→VK→Prop:=fun x vs H Q=>∃ l xs y,x= .ref l∧vs=[y]∧H l=some (.lst xs)∧xs.length < sizeLine∧Q .non (bg H l (.lst (xs ++ [y])))
theorem gn:Gn X "list.append" dk:=by
 intro pins s σ H x vs v us Q I rx rv h
 refine iV (h) fun l xs y hS29 hS30 hH hz q=> ?_; subst hS29; subst hS30
 cases rx
 obtain ⟨u,rfl,ru⟩:=rv.one
 refine nY (I.lstM hH) fun z its n r hl e=> ?_
 refine call_meets F.slot_list_append ⟨_,e,rfl⟩ F.entry_list_append (F.args_list_append_2 _ _) (PySem.list_append l its.toArray n u (by rw [List.size_toArray]; omega)) ⟨e,?_⟩
 refine ⟨.non,_,I.lset (its':=its ++ [u]) hH e (by simp) (r.append (.cons ru .nil)) ?_,rfl,q⟩
 rw [List.length_append,List.length_singleton]
 omega
noncomputable def qm:V→List V→Hp→VK→Prop:=fun x vs H Q=>∃ l b xs zs,x= .ref l∧vs=[.ref b]∧H l=some (.lst xs)∧H b=some (.lst zs)∧xs.length+zs.length≤sizeLine∧Q .non (bg H l (.lst (xs ++ zs)))
theorem vU:Gn X "list.extend" qm:=by
 intro pins s σ H x vs v us Q I rx rv h
 refine FU (h) fun l b xs zs hS31 hS32 hH hB hz q=> ?_; subst hS31; subst hS32
 cases rx
 obtain ⟨u,rfl,ru⟩:=rv.one
 cases ru
 refine nY (I.lstM hH) fun z E n r hl e=> ?_
 refine nY (I.lstM hB) fun z2 J n2 r2 hl2 e2=> ?_
 have hsz:E.toArray.size+J.toArray.size≤sizeLine:=by rw [List.size_toArray,List.size_toArray]; omega
 have hlong:¬ (!E.toArray.isEmpty && Builtin.List.listTooLong (E.toArray.size+J.toArray.size))=true:=by
  rw [rn hsz,Bool.and_false]
  exact Bool.false_ne_true
 refine call_meets F.slot_list_extend ⟨_,e,rfl⟩ F.entry_list_extend (F.args_list_extend_2 _ _)
  (AutoSeq1.list_extend_list_list_0 l E.toArray n b J.toArray n2 hlong (by rw [List.size_toArray]; omega) (by omega)) ⟨e,e2,?_⟩
 refine ⟨.non,_,I.lset (its':=E ++ J) hH e (by simp) (r.append r2) ?_,rfl,q⟩
 rw [List.length_append]
 omega
noncomputable def tE:V→List V→Hp→VK→Prop:=fun x vs H Q=>∃ l xs i k y,x= .ref l∧vs=[.int i]∧H l=some (.lst xs)∧ -(2 ^ 63)≤i∧i < 2 ^ 63∧seqIndex? i xs.length=some k∧xs[k]?=some y∧Q y (bg H l (.lst (xs.eraseIdx k)))
theorem xH:Gn X "list.pop" tE:=by
 intro pins s σ H x vs v us Q I rx rv h
 refine Hm (h) fun l xs i k y hS33 hS34 hH h1 h2 hk hy q=> ?_; subst hS33; subst hS34
 cases rx
 refine cps fun PP kP=> ?_
 obtain ⟨u,rfl,ru⟩:=rv.one
 obtain ⟨t,rfl⟩:=ru
 refine nY (I.lstM hH) fun z E n r hl e=> ?_
 obtain ⟨w,hw,rw'⟩:=r.get hy
 refine kP ?_; clear kP PP
 refine call_meets F.slot_list_pop ⟨_,e,rfl⟩ F.entry_list_pop (F.args_list_pop_2 _ _)
  (MeetsSeq.list_pop_at l E.toArray n i t k w (fitsIndex_both h1 h2) (by rw [List.size_toArray,← hl]; exact hk) (by rw [← Array.getElem?_toList]; exact hw) (by rw [List.size_toArray]; omega)) ⟨e,?_⟩
 refine ⟨y,_,I.lset (its':=E.eraseIdx k) hH e ?_ (r.eraseIdx k) ?_,rw',q⟩
 ·show E.toArray.eraseIdxIfInBounds k=(E.eraseIdx k).toArray
  rw [List.eraseIdxIfInBounds_toArray]
 ·have:=oF xs k
  omega
noncomputable def GV:R2:=fun x y H Q=>∃ l b xs zs,x= .ref l∧y= .ref b∧H l=some (.lst xs)∧H b=some (.lst zs)∧xs.length+zs.length≤sizeLine∧∀ p,H p=none→Q (.ref p) (bg H p (.lst (xs ++ zs)))
theorem CN:qz X (binaryOp .Add) GV:=by
 intro pins s σ H x y v u Q I rx ry h
 refine FU (h) fun l b xs zs hS35 hS36 hH hB hz q=> ?_; subst hS35; subst hS36
 cases rx
 cases ry
 refine nY (I.lstM hH) fun z its n r hl e=> ?_
 refine nY (I.lstM hB) fun z2 its2 n2 r2 hl2 e2=> ?_
 refine PySem.P.add_list e e2 ?_ (by rw [List.size_toArray,List.size_toArray]; omega)
 have ea:its.toArray ++ its2.toArray=(its ++ its2).toArray:=by simp
 rw [ea]
 exact ⟨.ref _,_,I.lnew (t':=s.toks) (r.append r2) (by rw [List.length_append]; omega),rfl,q _ I.fresh⟩
noncomputable def GW:R2:=fun x y H Q=>∃ l k xs,x= .ref l∧y= .int k∧H l=some (.lst xs)∧ -(2 ^ 63)≤k∧k < 2 ^ 63∧xs.length * k.toNat≤sizeLine∧
 ∀ p,H p=none→Q (.ref p) (bg H p (.lst (List.replicate k.toNat xs).flatten))
theorem zK {α:Type}(xs:List α)(k:Nat):(List.replicate k xs).flatten.length=k * xs.length:=by
 induction k with
 | zero=>simp
 | succ k ih=>rw [List.replicate_succ,List.flatten_cons,List.length_append,ih,Nat.succ_mul,Nat.add_comm]
theorem CQ:qz X (binaryOp .Mult) GW:=by
 intro pins s σ H x y v u Q I rx ry h
 refine Hn (h) fun l k xs hS37 hS38 hH h1 h2 hz q=> ?_; subst hS37; subst hS38
 cases rx
 obtain ⟨t,rfl⟩:=ry
 refine nY (I.lstM hH) fun z E n r hl e=> ?_
 have hlen:E.toArray.size * k.toNat≤sizeLine:=by rw [List.size_toArray,← hl]; exact hz
 have hcap:¬ E.toArray.size * k.toNat > (2 ^ 63 - 1) / 8:=by
  have:(sizeLine:Nat)≤(2 ^ 63 - 1) / 8:=by decide
  omega
 have hfit:¬ (!Builtin.List.listFitsIndex k)=true:=by
  rw [fitsIndex_both h1 h2]
  exact Bool.false_ne_true
 have hlong:¬ Builtin.List.listTooLong (E.toArray.size * k.toNat)=true:=by
  rw [rn hlen]
  exact Bool.false_ne_true
 have hnew:List.foldl (fun x1 x2=>x1 ++ x2) #[] (List.replicate (if E.toArray.isEmpty=true then 0 else k.toNat) E.toArray)=(List.replicate k.toNat E).flatten.toArray:=by
  have f0:∀ m:Nat,List.foldl (fun x1 x2=>x1 ++ x2) #[] (List.replicate m E.toArray)=(List.replicate m E).flatten.toArray:=fun m=>by
   have:=oo E m []
   rw [List.nil_append] at this
   exact this
  rw [f0]
  cases E with
  | nil=>simp
  | cons a r'=>rw [if_neg (by simp)]
 refine wpAny_binaryOp_repeat_ref (T:= "list") (U:= "int") (by decide) ⟨_,e,rfl⟩ (fun s'=>typeIs_int s' k t) noFill_list_mul F.fills_int_mul F.slot_int_rmul repeat_list F.slot_int_index.lookup
  (call_meets F.slot_int_rmul (typeIs_int s k t) F.entry_int_rmul (F.args_int_rmul_2 _ _) (int___rmul___int_list k t l E.toArray n)
   (nH e rfl ⟨_,e,rfl⟩ (call_meets F.slot_list_mul ⟨_,e,rfl⟩ F.entry_list_mul (F.args_list_mul_2 _ _) (AutoListH.list___mul___list_int_3 l E.toArray n k t hfit hcap hlong) ⟨e,?_⟩)))
 rw [hnew]
 exact ⟨.ref _,_,I.lnew (t':=s.toks) (r.rep k.toNat) (by rw [zK,Nat.mul_comm]; exact hz),rfl,q _ I.fresh⟩
end
section
variable{prog:Program}{w:World}{A:Around}{E:Value→Shared→Prop}{s:Shared}
end
section
variable{X:Cx}
end
end L2
namespace Att
open PySem PySem.W PySem.Calls PyProof.Rows
theorem lD {P:Params}{h:Heap}:∀ (ns:List Int) (vs:List Value),WellAll P h vs (ns.map WData.int)→IntsAre vs ns:=by
 intro ns
 induction ns with
 | nil=>
  intro vs w
  rw [List.map_nil] at w
  cases w
  exact .nil
 | cons n ns ih=>
  intro vs w
  rw [List.map_cons] at w
  cases w with
  | cons a b=>
   cases a
   exact .cons _ _ (ih _ b)
theorem wg {l:OpenLaw}{n:Nat}(hn:l.most=some n){P:Params}{h:Heap}{args:List WData}{vals:List Value}
  (hpre:l.row.toRowW.claim.pre args=true) (hwl:WellAll P h vals args) :
  ∃ a vs ns,vals=[Value.ref a]∧args=[WData.list (ns.map WData.int)]∧h.get? a=some { cls:= .type "list",data:= .seq vs.toArray }∧IntsAre vs ns∧ns.length≤n:=by
 have hsh:WShape.hasAll [] args [.list .int]=true:=(pre_splitW hpre).1
 have hc:l.pre.holds [] { args:=args }=true:=(pre_splitW hpre).2
 refine bp (hasAllW_cons hsh) fun d r hS39 h1 h2=> ?_; subst hS39
 obtain rfl:=hasAllW_nil h2
 obtain ⟨xs,rfl,h3⟩:=hasW_list h1
 obtain ⟨ns,rfl⟩:=items_int h3
 have hlen:ns.length≤n:=by
  unfold OpenLaw.pre at hc
  have h4:(WTm.not (.lt (.lit (.int (n:Int))) (.len (.arg 0)))).holds [] { args:=[.list (ns.map .int)] }=true:=by
   have h4:=(holds_andW hc).1
   rw [hn] at h4
   exact h4
  have h5:=condW_of h4 (w_not (w_lt w_lit (w_len_list (w_arg rfl))))
  rw [List.length_map] at h5
  refine Nat.le_of_not_lt fun q=> ?_
  have q':(n:Int) < ((ns.length:Nat):Int):=by omega
  first
   | (rw [decide_eq_true q'] at h5; exact absurd h5 (by decide))
   | (simp at h5; omega)
 cases hwl with
 | cons w1 w2=>
  cases w2
  cases w1 with
  | list ho hall=>exact (oA _ _ ns rfl rfl ho (lD ns _ hall) hlen)
theorem wc (l:OpenLaw)(args:List WData):l.row.toRowW.claim.post args (.bool true) args=true:=
 postW_of (r:=l.row.toRowW) (X:=(true == true))
  (show WShape.has [] (.bool true) .bool=true by first | rfl | decide | simp [WShape.has,WShape.arms,WShape.armsAll])
  (show (WTm.eq .res (.lit (.bool true))).value [] { args:=args,res:=some (.bool true),after:=args }=some (.bool (true == true)) from w_eq_bool (w_res rfl) w_lit) rfl
theorem qC {l:OpenLaw}{n:Nat}{q:Program}{loose:List Str}{XP:(Str→Option Value)→Heap→Prop}{YP:World→Heap→Prop}{d:DefRec}
  (hn:l.most=some n) (hdf:d.params.defaults=[])
  (call:∀ (w:World) (s₀ s₁:Shared) (mg mb:Str→Option Value) (fa:Addr) (o:Obj) (pm cd doc:Value) (a:Addr) (vs:List Value) (ns:List Int),
   Ground q loose [] XP w s₀ mg mb s₁.heap→YP w s₁.heap→
   s₁.heap.get? fa=some o→o.data= .func (docDef d.name d.params d.body d.scope pm cd doc)→s₁.heap.CodeRec cd d.name→mg d.name=some (.ref fa)→
   s₁.heap.get? a=some { cls:= .type "list",data:= .seq vs.toArray }→IntsAre vs ns→ns.length≤n→s₁.gens= #[]→
   codeAny (model l.prog w) callerA (.call (.ref fa) ⟨[.ref a],[]⟩) (fun r s'=>r= .ok (.ret (.bool true))∧OldK s₁.heap s'.heap∧s'.os=s₁.os∧AllBare s'.gens) s₁) :
  WalkO q loose XP YP l.row.toRowW d [] (fun f vs=>PySem.call f vs):=by
 intro w s₀ s₁ mg mb G Y fa o pm cd doc dV kV ho hd hcd hD hmg hg args vals as hpre hlay hrd hwl hlo
 obtain rfl:dV= .none:=Dflts.none hD hdf
 obtain rfl:kV= .none:=Dflts.noKw hD
 refine iV (wg hn hpre hwl) fun a vs ns hS40 hS41 hobj hints hlen=> ?_; subst hS40; subst hS41
 refine enter_call (codeAny_mono (call w s₀ s₁ mg mb fa o pm cd doc a vs ns G Y ho (fd_plain hd) hcd hmg hobj hints hlen hg) fun r s' hq=> ?_)
 refine r_ (hq) fun hS42 h2 h3 h4=> ?_; subst hS42
 exact (nH (.inl (oA (.bool true) (.bool true) ([]) rfl (fun _=>rfl) (.bool true) (wc l _) (fun _=>⟨List.Pairwise.nil,fun _ hm=>(nomatch hm)⟩))) h2 h3 h4)
section
variable{prog:Program}{w:World}{A:Around}{E:Value→Shared→Prop}{s:Shared}{K:Frag}
end
end Att
namespace L2
open PySem PySem.Spec PyProof.Rows
theorem oZ:∀ {vs:List Value} {ns:List Int},IntsAre vs ns→Vals (ns.map V.int) vs
 | _,_,.nil=> .nil
 | _,_,.cons n t h=> .cons ⟨t,rfl⟩ (oZ h)
noncomputable def Bz (H:Hp):Prop:=∀ b,H b=none∨∃ o xs,H b=some (.frz o (.lst xs))
theorem xu {P:Program}{w:World}{K:W.Frag}{mg mb:Str→Option Value}{CX:qy}{k:Nat}{fa a:Addr}{fd:FuncData}{x:Str}{sp:Sp}{s₁:Shared}{vs:List Value}{ns:List Int}
  (KX:K.In s₁.heap) (hns:s₁.heap.Ns mainGlobals mg) (hb:s₁.heap.Ns builtinsNs mb) (hbb:∀ x:Str,x≠ "__name__" →mb x=bootBuiltins x) (hlim:s₁.heap.NoLimit) (hg:s₁.gens= #[])
  (ha:s₁.heap.get? a=some { cls:= .type "list",data:= .seq vs.toArray }) (hi:IntsAre vs ns) (hl:ns.length≤sizeLine) (hr:Room k callerA)
  (F:∀ base:Heap,K.In base→base.Ns mainGlobals mg→FnOk P w K mg base CX k fa fd [x] sp) (hbind:∀ (s:Shared) (u:Value),BindsTo s fd ⟨[u],[]⟩ [(x,u)])
  (hsp:∀ H:Hp,Bz H→gs K H a (ns.map V.int)→sp [.ref a] H (fun v _=>v= .bl true) fun _ _ _=>False)
  (hCX:∀ H e s',CX [] H s₁ (fun _ _ _=>False) e s'→False) :
  codeAny (model P w) callerA (.call (.ref fa) ⟨[.ref a],[]⟩) (fun r s'=>r= .ok (.ret (.bool true))∧OldK s₁.heap s'.heap∧s'.os=s₁.os∧AllBare s'.gens) s₁:=by
 have rv:=oZ hi
 have lenV:=hi.length
 -- from an abstract heap in which nothing but the script may be tracked
 have core:∀ H:Hp,Bz H→gs K H a (ns.map V.int)→HOk P w H s₁.heap→(∀ b,H b≠none→b=a)→(H a≠none→K.lookup a=none)→
   codeAny (model P w) callerA (.call (.ref fa) ⟨[.ref a],[]⟩) (fun r s'=>r= .ok (.ret (.bool true))∧OldK s₁.heap s'.heap∧s'.os=s₁.os∧AllBare s'.gens) s₁:=by
  intro H hO hS hok hA hK
  have J:∀ {b:Addr} {o:Obj},s₁.heap.get? b=some o→H b=none→(pT s₁.heap H).get? b=some o:=fun e n=>xi e n
  have noA:∀ {b:Addr} {o:Obj} {es:Array DictEntry} {ep:Nat},s₁.heap.get? b=some o→o.data= .dict es ep→H b=none:=fun {b o es ep} e d=>by
   cases q:H b with
   | none=>rfl
   | some u=>
    have e':b=a:=hA b (by rw [q]; simp)
    subst e'
    rw [ha] at e; cases e
    have d':Data.seq vs.toArray _=Data.dict es ep:=d
    cases d'
  have L:∀ {b:Addr} {m:Str→Option Value},s₁.heap.Ns b m→(pT s₁.heap H).Ns b m:=fun {b m} hZ68=>(by refine nX (hZ68) fun o es ep e d r=> ?_; exact (GG o es ep (J e (noA e d)) d r))
  have hKb:K.In (pT s₁.heap H):=fun b o e=>J (KX b o e) (by
   cases q:H b with
   | none=>rfl
   | some u=>
    have e':b=a:=hA b (by rw [q]; simp)
    subst e'
    rw [hK (by rw [q]; simp)] at e; cases e)
  have hM:Mod K mg (pT s₁.heap H):=⟨hKb,L hns,⟨mb,L hb,hbb⟩,let ⟨mc,h1,h2⟩:=hlim; ⟨mc,L h1,h2⟩⟩
  have e0:Env0 P w K mg (pT s₁.heap H) callerA [] s₁ H:=⟨rfl,hM,fun b o e=>zP e,Nat.le_of_eq (vH _ _),trivial,fun b hb=>absurd (show b∈([]:List Addr) from hb) (by simp),hok,.of_eq hg⟩
  refine codeAny_mono ((F _ hKb (L hns)).run callerA [] s₁ H ⟨[.ref a],[]⟩ [.ref a] [.ref a] _ _ hr e0 (hbind s₁ (.ref a)) (.cons rfl .nil) (hsp H hO hS)) fun r s' h=> ?_
  cases r with
  | error e=>exact (hCX H e s' h).elim
  | ok fl=>
   cases fl with
   | next=>exact False.elim h
   | brk=>exact False.elim h
   | cont=>exact False.elim h
   | ret u=>
    obtain ⟨v,H',os,bare,un,hok',r',q⟩:=h
    have q':v= .bl true:=q
    subst q'
    obtain rfl:u=Value.bool true:=r'
    refine (nH rfl (OldK.of_keep fun b o e=> ?_) os bare)
    cases q:H b with
    | none=>exact un.keep b o e q (by intro z; exact absurd (show b∈([]:List Addr) from z) (by simp)) (by simp)
    | some u=>
     rcases hO b with z | ⟨ob,xs,z⟩
     ·rw [q] at z; cases z
     ·have z2:=un.frzs b ob _ z
      obtain ⟨e1,_⟩:=hok b _ z
      obtain ⟨e2,_⟩:=hok' b _ z2
      rw [e] at e1; cases e1
      exact e2
 cases hk:K.lookup a with
 | some o=>
  -- the script is one of the module's own objects
  have e:=KX a o hk
  rw [ha] at e
  cases e
  refine core (fun _=>none) (fun _=> .inl rfl) (.inr (EV _ vs.toArray _ hk rfl rfl rfl (by rw [List.size_toArray,lenV]; exact hl) (by simpa using rv))) (fun b u z=>by have z':(none:Option HO)=some u:=z; cases z') (fun b z=>absurd rfl z) fun z=>absurd rfl z
 | none=>
  refine core (fun b=>if b=a then some (.frz { cls:= .type "list",data:= .seq vs.toArray } (.lst (ns.map V.int))) else none) (fun b=> ?_) (.inl (.inr ⟨{ cls:= .type "list",data:= .seq vs.toArray },if_pos rfl⟩)) (fun b u z=> ?_) (fun b z=> ?_) fun _=>hk
  ·by_cases hb:b=a
   ·exact .inr ⟨_,_,if_pos hb⟩
   ·exact .inl (if_neg hb)
  ·by_cases hb:b=a
   ·have z':=(if_pos hb).symm.trans z
    cases z'
    subst hb
    exact (GH ha (by rw [List.length_map]; exact hl) vs _ rv ha)
   ·have z':=(if_neg hb).symm.trans z
    cases z'
  ·by_cases hb:b=a
   ·exact hb
   ·exact absurd (if_neg hb) z
theorem AQ {l:W.OpenLaw}{n k:Nat}{q:Program}{loose:List Str}{XP:(Str→Option Value)→Heap→Prop}{YP:World→Heap→Prop}{d:DefRec}{K:Params→W.Frag}{CX:World→qy}{sp:World→Sp}{x:Str}
  (hn:l.most=some n) (hn2:n≤sizeLine) (hdf:d.params.defaults=[]) (hr:Room k callerA)
  (hY:∀ (w:World) (h:Heap),YP w h→(K w.params).In h)
  (F:∀ (w:World) (mg:Str→Option Value) (fa:Addr) (h:Heap),(K w.params).In h→h.Ns mainGlobals mg→mg d.name=some (.ref fa)→
   ∃ fd:FuncData,(∀ (s:Shared) (u:Value),BindsTo s fd ⟨[u],[]⟩ [(x,u)])∧
    ∀ base:Heap,(K w.params).In base→base.Ns mainGlobals mg→FnOk l.prog w (K w.params) mg base (CX w) k fa fd [x] (sp w))
  (hsp:∀ (w:World) (H:Hp) (a:Addr) (ns:List Int),ns.length≤n→Bz H→gs (K w.params) H a (ns.map V.int)→sp w [.ref a] H (fun v _=>v= .bl true) fun _ _ _=>False)
  (hCX:∀ (w:World) (H:Hp) (s:Shared) (e:Value) (s':Shared),CX w [] H s (fun _ _ _=>False) e s'→False) :
  W.WalkO q loose XP YP l.row.toRowW d [] (fun f vs=>PySem.call f vs):=by
 refine Att.qC hn hdf fun w s₀ s₁ mg mb fa o pm cd doc a vs ns G Y ho hd hcd hmg hobj hints hlen hg=> ?_
 have KX:=hY w _ Y
 obtain ⟨fd,hb,hF⟩:=F w mg fa _ KX G.T.g hmg
 exact xu KX G.T.g G.T.b G.T.builtins G.T.nolimit hg hobj hints (Nat.le_trans hlen hn2) hr hF hb (fun H hO hS=>hsp w H a ns hlen hO hS) fun H e s'=>hCX w H s₁ e s'
noncomputable def i5 (s:Stmt)(j:Nat):Stmt:=match s with
 | .ClassDef _ _ _ body _ _ _ _ _ _ _=>body.getD j (.Pass ⟨0,0,0,0⟩)
 | _=> .Pass ⟨0,0,0,0⟩
noncomputable def gM (s:Stmt):Arguments:=match s with
 | .FunctionDef _ a _ _ _ _ _ _ _ _=>a
 | _=>{ posonlyargs:=[],args:=[],vararg:=none,kwonlyargs:=[],kw_defaults:=[],kwarg:=none,defaults:=[] }
noncomputable def cG (s:Stmt):List Stmt:=match s with
 | .FunctionDef _ _ b _ _ _ _ _ _ _=>b
 | _=>[]
noncomputable def ag (s:Stmt):Scope:=match s with
 | .FunctionDef _ _ _ _ _ _ sc _ _ _=>sc
 | _=>{ kind:= .function,names:=[],isGenerator:=false,isCoroutine:=false }
structure Fun (K:W.Frag)(x qual:Str)(st:Stmt)(f:Addr)(fd:FuncData):Prop where
 ex:∃ (oc:Value) (od:Option Addr) (kV doc pm:Value) (an:Option Addr) (cdv ct:Value) (osl:Array (Option Value)),
  fd=W.fnOf x qual (gM st) (cG st) (ag st) .none kV doc pm an cdv ct∧K.lookup f=some ⟨oc,od,.func fd,osl⟩∧W.codeIn K cdv qual=true
 kp:W.keepIn K (.ref f)=true
section
variable{P:Program}{w:World}{K:W.Frag}{mg:Str→Option Value}{base:Heap}
theorem Fun.binds {x qual:Str}{st:Stmt}{f:Addr}{fd:FuncData}{ps:List Str}(F:Fun K x qual st f fd)
  (h:∀ (kV doc pm:Value) (an:Option Addr) (cdv ct:Value) (us:List Value),us.length=ps.length→bindArgs (W.fnOf x qual (gM st) (cG st) (ag st) .none kV doc pm an cdv ct) ⟨us,[]⟩=pure (ps.zip us)):Binds K fd ps []:=by
 refine AU (F.ex) fun oc od kV doc pm an cdv ct osl hS43 lk hcd=> ?_; subst hS43
 exact .all (h kV doc pm an cdv ct)
theorem xa {x qual:Str}{st:Stmt}{f:Addr}{oc:Value}{od an:Option Addr}{osl:Array (Option Value)}{kV doc pm cdv ct:Value}(l:K.lookup f=some ⟨oc,od,.func (W.fnOf x qual (gM st) (cG st) (ag st) .none kV doc pm an cdv ct),osl⟩)
  (c:W.codeIn K cdv qual=true) (k:W.keepIn K (.ref f)=true):Fun K x qual st f (W.fnOf x qual (gM st) (cG st) (ag st) .none kV doc pm an cdv ct):=⟨(GI oc od kV doc pm an cdv ct osl rfl l c),k⟩
end
section
variable{X:Cx}
theorem pv (i:Nat){x:Str}{pos:Pos}(hN:X.N[i]?=some x:=by rfl)(hv:t9 X.env.scope x:=by first | exact Or.inl rfl | exact Or.inr (Or.inl rfl) | exact Or.inr (Or.inr rfl))(hd:(x == ("__debug__" :Str))=false:=by decide)
  (hcd:(x == ("__classdict__" :Str))=false:=by decide):PE X (.Name x pos) (FP i):=eY hN hv hd hcd
end
noncomputable def Same (H H':Hp):Prop:=∀ b o,H b=some o→H' b=some o
theorem Same.refl (H:Hp):Same H H:=fun _ _ h=>h
theorem Same.trans {H H1 H2:Hp}(a:Same H H1)(b:Same H1 H2):Same H H2:=fun c o h=>b c o (a c o h)
theorem Same.free {H H':Hp}(e:Same H H'){l:Addr}(h:H' l=Option.none):H l=Option.none:=by
 cases q:H l with
 | none=>rfl
 | some o=>
  rw [e l o q] at h
  cases h
theorem Same.seq {K:W.Frag}{H H':Hp}{a:Addr}{xs:List V}(e:Same H H')(h:gs K H a xs):gs K H' a xs:=by
 rcases h with (h | ⟨o,h⟩) | h
 ·exact .inl (.inl (e _ _ h))
 ·exact .inl (.inr ⟨o,e _ _ h⟩)
 ·exact .inr h
section
variable(P:Program)(w:World)
end
section
variable{P:Program}{w:World}{H H':Hp}{h h':Heap}{a:Addr}{o:HO}
end
section
variable{P:Program}{w:World}{H:Hp}{h h':Heap}{x e:Addr}{o':HO}
end
section
variable{fs fs' ex ex':List Addr}{H H1 H2:Hp}{h h1 h2 h':Heap}{a x e:Addr}{o:HO}
end
section
variable{X:Cx}{pins:List (Addr×Obj)}{σ:List (Option V)}{H H':Hp}{s:Shared}{h':Heap}
end
section
variable{X:Cx}
variable{a b:Expr}{ta tb:TE}{pos:Pos}
variable{tA tB':TT}{rest:List Expr}
end
section
variable{X:Cx}{pins:List (Addr×Obj)}{σ:St}{H:Hp}{s:Shared}{a:Addr}{xs ys:List V}
end
section
variable{X:Cx}{pins:List (Addr×Obj)}{σ:St}{H:Hp}{s:Shared}{E:Value→Shared→Prop}
end
section
variable{X:Cx}{st:Stmt}{rest:List Stmt}{t u:TS}{e:Expr}{te:TE}{pos:Pos}
end
section
variable{X:Cx}{pos:Pos}
end
section
variable{X:Cx}{tg:Expr}
end
section
variable{X:Cx}{a b c:Expr}{ta tb tc:TE}{pos:Pos}
end
section
variable{prog:Program}{w:World}{A:Around}{E:Value→Shared→Prop}{s:Shared}{K:W.Frag}{x dx C f:Addr}{mA:Str→Option Value}{name:Str}{v:Value}
end
section
variable{P:Program}{w:World}{H H':Hp}{h h':Heap}{a C dx:Addr}{fs fs':List (Str×V)}
end
section
variable{X:Cx}{pins:List (Addr×Obj)}{σ:St}{H:Hp}{s:Shared}{a C dx:Addr}{fs:List (Str×V)}{f:Str}{v:V}{A:Around}{E:Value→Shared→Prop}
end
section
variable{X:Cx}{o e value:Expr}{f:Str}{pos pos' tpos:Pos}{ta tv:TE}
end
section
variable{X:Cx}{pins:List (Addr×Obj)}{σ:St}{H:Hp}{s:Shared}{A:Around}{E:Value→Shared→Prop}{Q:Value→Shared→Prop}{c:Value}{b:Bool}
end
section
variable{X:Cx}{e:Expr}{es:List Expr}{te:TE}{t:TA}{pos:Pos}
end
section
variable{X:Cx}{pins:List (Addr×Obj)}{σ:St}{H:Hp}{s s':Shared}
end
section
variable{X:Cx}{CX:qy}{k:Nat}{f C:Addr}{fd:FuncData}{ps:List Str}{sp:Sp}{dvs:List V}{ds:List Value}{E:XK}{x m:Str}{p pos apos:Pos}{e o:Expr}{es:List Expr}{ta:TE}{t:TA}
end
section
variable{X:Cx}{CX:qy}{k:Nat}{f C:Addr}{fd:FuncData}{ps ks:List Str}{sp:Sp}{E:XK}{x m:Str}{p pos apos kpos:Pos}{e o:Expr}{es:List Expr}{kws:List Keyword}{te ta:TE}{t tk:TA}{nm:Option Str}
variable{g:List Value→List Value→List Value}{gV:List V→List V→List V}
end
section
variable{X:Cx}{x:Str}{p pos:Pos}{e:Expr}{es:List Expr}{t:TA}{id T:String}{r:List V→Hp→VK→Prop}
end
section
variable{κ:Type}[DecidableEq κ]
noncomputable def iu (kvs:List (κ×V))(k:κ):Option V:=(kvs.find? fun kv=>decide (kv.1=k)).map (·.2)
noncomputable def e_ (kvs:List (κ×V))(k:κ)(v:V):List (κ×V):=
 if (kvs.any fun kv=>decide (kv.1=k))=true then kvs.map (fun kv=>if kv.1=k then (kv.1,v) else kv) else kvs ++ [(k,v)]
theorem ky {p:κ×V}{r:List (κ×V)}{k:κ}(e:p.1=k):iu (p :: r) k=some p.2:=by simp [iu,List.find?_cons,e]
theorem iU {p:κ×V}{r:List (κ×V)}{k:κ}(e:¬ p.1=k):iu (p :: r) k=iu r k:=by simp [iu,List.find?_cons,e]
theorem kx (k:κ):∀ kvs:List (κ×V),(kvs.any fun kv=>decide (kv.1=k))=(iu kvs k).isSome
 | []=>rfl
 | p :: r=>by
  rw [List.any_cons]
  by_cases e:p.1=k
  ·simp only [ky e,decide_eq_true e,Bool.true_or,Option.isSome_some]
  ·rw [iU e,decide_eq_false e,Bool.false_or]; exact kx k r
theorem lr (kvs:List (κ×V))(k:κ)(v:V):(e_ kvs k v).length≤kvs.length+1:=by
 unfold e_
 split
 ·rw [List.length_map]; omega
 ·rw [List.length_append,List.length_cons,List.length_nil]; omega
theorem x_ {kvs:List (κ×V)}{k:κ}(v:V)(h:iu kvs k=none):e_ kvs k v=kvs ++ [(k,v)]:=by
 unfold e_
 rw [kx,h]
 exact if_neg (by decide)
theorem RelO.isSome_eq {o:Option V}{u:Option Value}(r:RelO o u):o.isSome=u.isSome:=by
 cases o with
 | none=>cases u with
  | none=>rfl
  | some _=>exact (show False from r).elim
 | some _=>cases u with
  | none=>exact (show False from r).elim
  | some _=>rfl
theorem KV.val {kvs:List (κ×V)}{vs:List (κ×Value)}(r:KV kvs vs)(k:κ):RelO (iu kvs k) (valueAt vs k):=by
 unfold KV at r
 induction r with
 | nil=>exact True.intro
 | @cons p q ps qs h t ih=>
  obtain ⟨h1,h2⟩:=h
  by_cases e:p.1=k
  ·have e':q.1=k:=h1.symm.trans e
   have b:valueAt (q :: qs) k=some q.2:=by simp [valueAt,List.find?_cons,e']
   rw [ky e,b]; exact h2
  ·have e':¬ q.1=k:=fun z=>e (h1.trans z)
   have b:valueAt (q :: qs) k=valueAt qs k:=by simp [valueAt,List.find?_cons,e']
   rw [iU e,b]; exact ih
theorem KV.any {kvs:List (κ×V)}{vs:List (κ×Value)}(r:KV kvs vs)(k:κ):(kvs.any fun kv=>decide (kv.1=k))=vs.any fun kv=>decide (kv.1=k):=by
 unfold KV at r
 induction r with
 | nil=>rfl
 | cons h t ih=>rw [List.any_cons,List.any_cons,ih,h.1]
theorem KV.repl {kvs:List (κ×V)}{vs:List (κ×Value)}(r:KV kvs vs)(k:κ){y:V}{u:Value}(ry:RelV y u) :
  KV (kvs.map fun kv=>if kv.1=k then (kv.1,y) else kv) (vs.map fun kv=>if kv.1=k then (kv.1,u) else kv):=by
 unfold KV at r ⊢
 induction r with
 | nil=>exact .nil
 | @cons p q ps qs h t ih=>
  rw [List.map_cons,List.map_cons]
  refine .cons ?_ ih
  obtain ⟨h1,h2⟩:=h
  by_cases e:p.1=k
  ·rw [if_pos e,if_pos (h1.symm.trans e)]; exact ⟨h1,ry⟩
  ·rw [if_neg e,if_neg (fun z=>e (h1.trans z))]; exact ⟨h1,h2⟩
theorem KV.put {kvs:List (κ×V)}{vs:List (κ×Value)}(r:KV kvs vs)(k:κ){y:V}{u:Value}(ry:RelV y u):KV (e_ kvs k y) (stored vs k u):=by
 unfold e_ stored
 rw [r.any k]
 by_cases e:(vs.any fun kv=>decide (kv.1=k))=true
 ·rw [if_pos e,if_pos e]; exact r.repl k ry
 ·rw [if_neg e,if_neg e]; exact Paired.snoc r ⟨rfl,ry⟩
theorem KV.length {kvs:List (κ×V)}{vs:List (κ×Value)}(r:KV kvs vs):kvs.length=vs.length:=Paired.length r
end
theorem xq {P:Program}{w:World}{k:bu}{u:Value}(r:RelV (kV k) u):(bU P w).is k u=true:=by
 cases k with
 | inl i=>obtain ⟨t,e⟩:=(show ∃ t,u=Value.int i t from r); subst e; exact rh P w i t
 | inr x=>obtain ⟨t,e⟩:=(show ∃ t,u=Value.str x t from r); subst e; exact rj P w x t
theorem oB {P:Program}{w:World}:∀ {ks:List bu} {us:List Value},Vals (ks.map kV) us→ItemsAre (bU P w) ks us
 | [],_,r=>by rw [List.map_nil] at r; cases r; exact .nil
 | k :: ks,_,r=>by
  rw [List.map_cons] at r
  cases r with
  | cons h t=>exact .cons (xq h) (oB t)
noncomputable abbrev KT (H:Hp):List (List bu×V)→List (List bu×Addr×Value)→Prop:=Paired fun p q=>p.1=q.1∧H q.2.1=some (.tup (p.1.map kV))∧RelV p.2 q.2.2
theorem KT.val {H:Hp}{kvs:List (List bu×V)}{xs:List (List bu×Addr×Value)}(r:KT H kvs xs)(k:List bu):RelO (iu kvs k) ((atKey xs k).map (·.2)):=by
 induction r with
 | nil=>exact True.intro
 | @cons p q ps qs h t ih=>
  obtain ⟨h1,_,h2⟩:=h
  by_cases e:p.1=k
  ·have e':q.1=k:=h1.symm.trans e
   have b:atKey (q :: qs) k=some q.2:=by simp [atKey,List.find?_cons,e']
   rw [ky e,b]; exact h2
  ·have e':¬ q.1=k:=fun z=>e (h1.trans z)
   have b:atKey (q :: qs) k=atKey qs k:=by simp [atKey,List.find?_cons,e']
   rw [iU e,b]; exact ih
theorem KT.repl {H:Hp}{kvs:List (List bu×V)}{xs:List (List bu×Addr×Value)}(r:KT H kvs xs)(k:List bu){y:V}{u:Value}(ry:RelV y u) :
  KT H (kvs.map fun kv=>if kv.1=k then (kv.1,y) else kv) (xs.map (putAt k u)):=by
 induction r with
 | nil=>exact .nil
 | @cons p q ps qs h t ih=>
  rw [List.map_cons,List.map_cons]
  refine .cons ?_ ih
  obtain ⟨h1,h2,h3⟩:=h
  unfold putAt
  by_cases e:p.1=k
  ·rw [if_pos e,if_pos (h1.symm.trans e)]; exact ⟨h1,h2,ry⟩
  ·rw [if_neg e,if_neg (fun z=>e (h1.trans z))]; exact ⟨h1,h2,h3⟩
theorem KT.put {H:Hp}{kvs:List (List bu×V)}{xs:List (List bu×Addr×Value)}(r:KT H kvs xs)(k:List bu){b:Addr}{y:V}{u:Value}(hb:H b=some (.tup (k.map kV)))(ry:RelV y u) :
  KT H (e_ kvs k y) (storedH xs k b u):=by
 have e:(kvs.any fun kv=>decide (kv.1=k))=(atKey xs k).isSome:=by
  rw [kx,(r.val k).isSome_eq,Option.isSome_map]
 unfold e_ storedH
 rw [e]
 by_cases q:(atKey xs k).isSome=true
 ·rw [if_pos q,if_pos q]; exact r.repl k ry
 ·rw [if_neg q,if_neg q]; exact Paired.snoc r ⟨rfl,hb,ry⟩
theorem KT.keeps {H H':Hp}{kvs:List (List bu×V)}{xs:List (List bu×Addr×Value)}(r:KT H kvs xs)(ht:∀ b ys,H b=some (.tup ys)→H' b=some (.tup ys)):KT H' kvs xs:=
 Paired.mapP r fun _ _ z=>⟨z.1,ht _ _ z.2.1,z.2.2⟩
section
variable{P:Program}{w:World}{H:Hp}{h:Heap}{a:Addr}
theorem yf {u:HO}(ok:HOk P w H h)(e:Rd H a u):ObjOk P w H h a u:=e.ok ok
theorem wJ {kvs:List (bu×V)}(ok:HOk P w H h)(e:Rd H a (.dK kvs)):kvs.length≤sizeLine∧(a == sysModules)=false∧∃ vs,KV kvs vs∧h.DictOf (bU P w) a vs:=
 show ObjOk P w H h a (.dK kvs) from yf ok e
theorem DU {kvs:List (bu×V)}(ok:HOk P w H h)(e:H a=some (.dK kvs)):kvs.length≤sizeLine∧(a == sysModules)=false∧∃ vs,KV kvs vs∧h.DictOf (bU P w) a vs:=wJ ok (.inl e)
theorem sO {ks:List bu}(ok:HOk P w H h)(e:H a=some (.tup (ks.map kV))):(tupleKind (bU P w)).is h ks a:=by
 refine Ho ((show ObjOk P w H h a (.tup (ks.map kV)) from ok a _ e)) fun _ its r o h1 h2 n h3=> ?_
 exact (jh o its.toArray n h1 h2 h3 (by simpa using oB r))
theorem wN {kvs:List (List bu×V)}(ok:HOk P w H h)(e:Rd H a (.dT kvs)):kvs.length≤sizeLine∧(a == sysModules)=false∧
  ∃ xs,KT H kvs xs∧h.DictOfH (tupleKind (bU P w)) a xs:=by
 refine DC ((show ObjOk P w H h a (.dT kvs) from yf ok e)) fun z y xs r o es ep h1 h2 h3 h4 h5=> ?_
 refine (GJ z y xs r o es ep h1 h2 h3 h4 (fun x hx=> ?_) h5)
 have all:∀ {l:List (List bu×V)} {m:List (List bu×Addr×Value)},KT H l m→∀ x∈m,(tupleKind (bU P w)).is h x.1 x.2.1:=by
  intro l m q
  induction q with
  | nil=>intro x hx; exact nomatch hx
  | @cons p q ps qs hq t ih=>
   intro x hx
   rcases List.mem_cons.mp hx with e | hx
   ·subst e
    exact sO ok (by rw [← hq.1]; exact hq.2.1)
   ·exact ih x hx
 exact all r x hx
theorem DV {kvs:List (List bu×V)}(ok:HOk P w H h)(e:H a=some (.dT kvs)):kvs.length≤sizeLine∧(a == sysModules)=false∧
  ∃ xs,KT H kvs xs∧h.DictOfH (tupleKind (bU P w)) a xs:=wN ok (.inl e)
end
noncomputable def Bx (H:Hp)(a:Addr)(y:V)(r:Option V):Prop:=
 (∃ kvs k,Rd H a (.dK kvs)∧y=kV k∧r=iu kvs k)∨∃ kvs k b,Rd H a (.dT kvs)∧y= .ref b∧H b=some (.tup (k.map kV))∧r=iu kvs k
noncomputable def DK (H:Hp)(a:Addr)(y v:V)(H':Hp):Prop:=
 (∃ kvs k,H a=some (.dK kvs)∧y=kV k∧kvs.length < sizeLine∧H'=bg H a (.dK (e_ kvs k v)))∨
 ∃ kvs k b,H a=some (.dT kvs)∧y= .ref b∧H b=some (.tup (k.map kV))∧kvs.length < sizeLine∧H'=bg H a (.dT (e_ kvs k v))
section
variable{X:Cx}{pins:List (Addr×Obj)}{σ:St}{H:Hp}{s:Shared}{a:Addr}{y v:V}{u r:Value}{o:Option V}{A:Around}{E:Value→Shared→Prop}
theorem Inv.big (I:Inv X pins σ H s):sysModules < s.heap.objs.size:=by
 have h:mainGlobals < s.heap.objs.size:=(I.mod.glob.keeps I.bk).lt
 exact Nat.lt_trans (by decide) h
theorem vo {Q:Value→Shared→Prop}(hu:A.units+1 < cLine)(I:Inv X pins σ H s)(g:Bx H a y (some v))(ry:RelV y u)(h:∀ w' s',Inv X pins σ H s'→RelV v w'→Q w' s') :
  wpAny (model X.prog X.w) A (getItem (.ref a) u) Q E s:=by
 rcases g with ⟨kvs,k,e,ey,l⟩ | ⟨kvs,k,b,e,ey,eb,l⟩
 ·refine cps fun PP kP=> ?_
  subst ey
  refine wt (wJ I.hok e) fun z hd vs rel dd=> ?_
  obtain ⟨w',hw,rw'⟩:=RelO.some_of (v:=v) (o:=valueAt vs k) (by rw [l]; exact rel.val k)
  refine kP ?_; clear kP PP
  exact wpAny_getItem_of (xq ry) dd.mapOf hw (h w' _ (I.tok _) rw')
 ·subst ey
  cases (show u=Value.ref b from ry)
  refine cps fun PP kP=> ?_
  refine wt (wN I.hok e) fun z hd xs rel dd=> ?_
  obtain ⟨w',hw,rw'⟩:=RelO.some_of (v:=v) (o:=(atKey xs k).map (·.2)) (by rw [l]; exact rel.val k)
  obtain ⟨p,hp,hp2⟩:=Option.map_eq_some_iff.mp hw
  refine kP ?_; clear kP PP
  refine wpAny_getItem_heap (tupleKind_room_in1 hu) (sO I.hok eb) dd hp ?_
  rw [hp2]
  exact h w' _ (I.tok _) rw'
theorem uf {h':Heap}{t':Nat}{ob:HO}(I:Inv X pins σ H s)(mu:DM (H a))(hs:Heap.SameBut a s.heap h')(he:∃ q,h'.get? a=some q)(new:ObjOk X.prog X.w (bg H a ob) h' a ob) :
  Inv X pins σ (bg H a ob) { s with heap:=h',toks:=t' }:=
 I.write (x:=a) (e:=a) mu (.inl rfl) (fun b q hb z=>(hs.2 b hb).trans z) he new
theorem BJ {P:Program}{w:World}{H':Hp}{h':Heap}{kvs:List (bu×V)}{vs:List (bu×Value)}(z:kvs.length≤sizeLine)(hd:(a == sysModules)=false)(rel:KV kvs vs)(dd:h'.DictOf (bU P w) a vs) :
  ObjOk P w H' h' a (.dK kvs):=(GK z hd vs rel dd)
theorem vp {H':Hp}{Q:Unit→Shared→Prop}(hu:A.units+1 < cLine)(I:Inv X pins σ H s)(g:DK H a y v H')(ry:RelV y u)(rv:RelV v r)(h:∀ s',Inv X pins σ H' s'→Q () s') :
  wpAny (model X.prog X.w) A (setItem (.ref a) u r) Q E s:=by
 rcases g with ⟨M,k,e,ey,l,eH⟩ | ⟨M,k,b,e,ey,eb,l,eH⟩
 ·subst ey eH
  refine wt (DU I.hok e) fun z hd vs L dd=> ?_
  have hz:vs.length≤sizeLine:=by rw [← L.length]; exact z
  have hl:(e_ M k v).length≤sizeLine:=by have:=lr M k v; omega
  refine wpAny_setItem_pairs (hsz:=hz) (xq ry) dd fun h' N hs=>h _ ?_
  have he:∃ q,h'.get? a=some q:=let ⟨q,_,_,hq,_⟩:=N; ⟨q,hq⟩
  exact uf I (by rw [e]; exact True.intro) hs he (BJ hl hd (L.put k rv) N)
 ·subst ey eH
  cases (show u=Value.ref b from ry)
  refine wt (DV I.hok e) fun z hd xs L dd=> ?_
  have hz:xs.length≤sizeLine:=by rw [← Paired.length L]; exact z
  have hl:(e_ M k v).length≤sizeLine:=by have:=lr M k v; omega
  refine wpAny_setItem_heap (hsz:=hz) (tupleKind_room_in1 hu) (sO I.hok eb) dd fun h' N hs=>h _ ?_
  refine Hq (N) fun q es ep hq h2 h3 h4 _ h5=> ?_
  refine uf I (by rw [e]; exact True.intro) hs ⟨q,hq⟩ (EW hl hd _ ((L.put k eb rv).keeps fun c ys ec=> ?_) q es ep hq h2 h3 h4 h5)
  rw [ai (Fs ec e (fun z=>nomatch z))]
  exact ec
end
section
variable{X:Cx}{pins:List (Addr×Obj)}{σ:St}{H:Hp}{s:Shared}{a:Addr}{kvs:List (bu×V)}{k:bu}{u:Value}{A:Around}{E:Value→Shared→Prop}
end
noncomputable def yQ (i:Expr):Prop:=∀ ov iv,subscripted i false ov iv=operate [ov,iv] (getItem ov iv)
theorem AL {prog:Program}{w:World}{A:Around}{E:Value→Shared→Prop}{s:Shared}{env:Env}{value slice:Expr}{pos:Pos}{T id:String}{Q:Value→Shared→Prop}
  (hl:typeLookup (.type T) "__getitem__" =pure (some (.builtin id))) (hs:yQ slice)
  (h:wpAny (model prog w) A (eval value env) (fun o s₁=>wpAny (model prog w) A (eval slice env) (fun i s₂=>s₂.TypeIs o T∧wpAny (model prog w) A (getItem o i) Q E s₂) E s₁) E s) :
  wpAny (model prog w) A (eval (.Subscript value slice pos) env) Q E s:=by
 refine Subscript_ (wpAny_mono h (fun o s₁ h₁=>wpAny_mono h₁ (fun i s₂ O=> ?_) fun _ _ x=>x) fun _ _ x=>x)
 obtain ⟨hT,O⟩:=O
 unfold subscriptTail
 refine wpAny_bind ?_
 rw [getitemInPython_of_ne hT.not_modules]
 refine wpAny_bind (wpAny_specialOf hT hl ?_)
 have fin:wpAny (model prog w) A (subscripted slice false o i) (fun r s₃=>wpAny (model prog w) A (letTemporaryGo value o r >>= fun _=>pure r) Q E s₃) E s₂:=by
  rw [hs o i]
  exact wpAny_operating (wpAny_mono O (fun r s₃ h₃=>wpAny_bind (wpAny_letTemporaryGo (wpAny_pure h₃))) fun _ _ x=>x)
 first
  | exact wpAny_pure (wpAny_bind fin)
  | exact wpAny_bind (wpAny_pure (wpAny_bind fin))
  | exact wpAny_bind fin
theorem qL {X:Cx}{pins:List (Addr×Obj)}{σ:St}{H:Hp}{s:Shared}{a:Addr}{y:V}{o:Option V}(I:Inv X pins σ H s)(g:Bx H a y o):s.TypeIs (.ref a) "dict" :=by
 rcases g with ⟨kvs,k,e,_,_⟩ | ⟨kvs,k,b,e,_,_,_⟩
 ·refine wt (wJ I.hok e) fun _ _ vs _ dd=> ?_
  exact dd.typeIs
 ·refine wt (wN I.hok e) fun _ _ xs _ dd=> ?_
  exact dd.typeIs
noncomputable def Bt (td ty:TE):TE:=fun σ H Q=>td σ H fun x H1=>ty σ H1 fun y H2=>∃ a v,x= .ref a∧Bx H2 a y (some v)∧Q v H2
noncomputable def FH (td ty tv:TE):TS:=fun D σ H=>tv σ H fun v H1=>td σ H1 fun x H2=>ty σ H2 fun y H3=>∃ a H4,x= .ref a∧DK H3 a y v H4∧D.nx σ H4
section
variable{X:Cx}{o i e value:Expr}{pos pos' tpos:Pos}{td ty tv:TE}
theorem uK (hu:X.A.units+1 < cLine)(ho:PE X o td)(hi:PE X i ty)(hs:yQ i):PE X (.Subscript o i pos) (Bt td ty):=by
 intro pins s σ H Q I h
 refine AL PySem.F.slot_dict_getitem.lookup hs (aW (ho pins s σ H _ I h) fun u s1 ⟨x,H1,I1,rx,q1⟩=>aW (hi pins s1 σ H1 _ I1 q1) fun iv s2 hZ70=> ?_)
 obtain ⟨y,H2,I2,ry,a,v,ex,g,q2⟩:=hZ70
 subst ex
 obtain rfl:u=Value.ref a:=rx
 exact ⟨qL I2 g,vo hu I2 g ry fun w' s3 I3 rw'=>⟨v,H2,I3,rw',q2⟩⟩
theorem Ar (hu:X.A.units+1 < cLine)(ho:PE X o td)(hi:PE X i ty)(hv:PE X value tv)(hs:swapsWith value (some (.Subscript o i pos')) pos.line X.env=pure false) :
  PS X (.Assign [.Subscript o i pos'] value pos) (FH td ty tv):=by
 intro z s σ H D I h
 refine wpAny_Assign_Subscript (aW (hv z s σ H _ I h) fun r s1 ⟨v,H1,I1,rv,q1⟩=>aW (ho z s1 σ H1 _ I1 q1) fun u s2 ⟨x,H2,I2,rx,q2⟩=>aW (hi z s2 σ H2 _ I2 q2) fun iv s3 hZ73=> ?_) hs
 obtain ⟨y,H3,I3,ry,a,H4,ex,g,q3⟩:=hZ73
 subst ex
 obtain rfl:u=Value.ref a:=rx
 exact vp hu I3 g ry rv fun s4 I4=>⟨σ,H4,I4,q3⟩
end
theorem wM {P:Program}{w:World}{H:Hp}(h:Heap)(hb:sysModules < h.objs.size):ObjOk P w H (h.push { cls:= .type "dict",data:= .dict #[] }) h.objs.size (.dT []):=
 (EW (Nat.zero_le _) (beq_eq_false_iff_ne.mpr (Ne.symm (Nat.ne_of_lt hb))) ([]) .nil _ (#[]) 0 (Heap.get?_push_size _ rfl) ⟨rfl,rfl,rfl⟩ rfl rfl List.nodup_nil)
noncomputable def Dq:TE:=fun _ H Q=>∀ p,H p=none→Q (.ref p) (bg H p (.dT []))
section
variable{X:Cx}{pos:Pos}
theorem xU:PE X (.Dict [] [] pos) Dq:=fun pins s σ H Q I h=>
 wpAny_Dict_empty ⟨.ref s.heap.objs.size,_,I.laid (a:=s.heap.objs.size) (o:= .dT []) (t':=s.toks) (fun _ _ q=>Heap.get?_push_of_some _ q) (Nat.le_refl _) (wM s.heap I.big),rfl,h _ (I.hok.fresh (Nat.le_refl _))⟩
end
section
variable{X:Cx}{pins:List (Addr×Obj)}{σ:St}{H:Hp}{s:Shared}{a:Addr}{y d:V}{u r:Value}{o:Option V}{A:Around}{E:Value→Shared→Prop}
end
section
variable{X:Cx}{o e f:Expr}{apos cpos:Pos}{td ty tx:TE}
end
section
variable{X:Cx}{pins:List (Addr×Obj)}{σ:St}{H:Hp}{s:Shared}{a:Addr}{kvs:List (bu×V)}{A:Around}{E:Value→Shared→Prop}
end
section
variable{X:Cx}{pins:List (Addr×Obj)}{σ:St}{H:Hp}{s:Shared}{a:Addr}{y:V}{u:Value}{A:Around}{E:Value→Shared→Prop}
end
end L2
namespace Att
open PySem PySem.W PySem.Calls PyProof.Rows
section
variable{prog:Program}{w:World}{A:Around}{E:Value→Shared→Prop}{s:Shared}{K:Frag}
end
end Att
namespace L2
open PySem PySem.Spec PyProof.Rows
section
variable{P:Program}{w:World}{K:W.Frag}{mg:Str→Option Value}{base:Heap}
end
section
variable{X:Cx}
end
section
variable{κ:Type}[DecidableEq κ]
end
theorem HOk.onto {P:Program}{w:World}{H:Hp}{h1 h2:Heap}(x:HOk P w H h1)(k:∀ b o u,H b=some u→h1.get? b=some o→h2.get? b=some o):HOk P w H h2:=fun a o e=>
 (x a o e).stay (fun b u hb q=>by
  rcases hb with rfl | hb
  ·exact k b u _ e q
  ·exact k b u _ hb q) (fun _ q=>q) fun _ _ q=>q
theorem ObjOk.at {P:Program}{w:World}{H:Hp}{h:Heap}{a:Addr}{o:HO}(x:ObjOk P w H h a o):∃ ob,h.get? a=some ob:=by
 cases o with
 | lst xs=>refine yK (x) fun _ _ _ _ e=> ?_; exact ⟨_,e⟩
 | tup xs=>refine r9 (x) fun _ _ _ p=> ?_; obtain ⟨o,e,_⟩:=p; exact ⟨o,e⟩
 | dK kvs=>refine tX (x) fun _ _ _ _ o _ _ e _=> ?_; exact ⟨o,e⟩
 | dT kvs=>refine tX (x) fun _ _ _ _ o _ _ e _=> ?_; exact ⟨o,e⟩
 | set S n=>refine DA (x) fun o _ _ _ e _=> ?_; exact ⟨o,e⟩
 | ins C dx fs=>refine qx (x) fun _ _ _ e _=> ?_; exact ⟨_,e⟩
 | own y=>exact x
 | xd fs=>obtain ⟨_,⟨o,_,_,e,_⟩,_⟩:=x; exact ⟨o,e⟩
 | rng lo hi=>refine AT (x) fun _ _ _ e=> ?_; exact ⟨_,e⟩
 | frz ob u=>obtain ⟨e,_⟩:=x; exact ⟨ob,e⟩
 | tbl ps=>exact ⟨_,(show h.get? a=some _ from x)⟩
 | met f y=>exact ⟨_,(show h.get? a=some _ from x)⟩
 | ext φ=>obtain ⟨_,e,_⟩:=x; exact e
inductive CXF (P:Program)(w:World)(outer:List Env)(H:Hp)(s:Shared)(E:XK)(ev:Value)(s':Shared):Prop
 | mk (e:Addr) (cls a0:Value) (B:Heap) (H':Hp) (h1:ev= .ref e) (h2:s'.os=s.os) (h3:AllBare s'.gens)
  (h4:Un (jC outer) [] H H' s.heap s'.heap) (h5:HOk P w H' s'.heap) (h6:Heap.FlyingW B outer e cls a0 s'.heap)
  (h7:∀ b o,s'.heap.get? b=some o→b∉jC outer→((∃ u,H' b=some u)∨∃ o',s.heap.get? b=some o')→B.get? b=some o)
  (h8:H' e=none) (h9:s.heap.get? e=none) (q:E cls none H')
section
variable{X:Cx}{pins:List (Addr×Obj)}{σ:St}{H:Hp}{s:Shared}
theorem iD {P:Program}{w:World}{K:W.Frag}{mg:Str→Option Value}{base:Heap}{N:List Str}{qual:Str}{scope:Scope}{f:Addr}{cd:Value}{A:Around}{outer:List Env}{s₀:Shared}{H₀:Hp}{E E':XK}
  (he:∀ c a H,E' c a H→E c a H) :
  cL (CXF P w) (qK (CXF P w) P w K mg base N qual scope f cd A outer s₀ H₀ E) E':=by
 intro pins σ H s ev s' I h
 obtain ⟨e,cls,a0,B,H',rfl,os,bare,un,hok,fl,cov,hn,hs,q⟩:=h
 have X:∀ {b:Addr} {o:Obj},s₀.heap.get? b=some o→b≠s₀.heap.objs.size:=fun e=>Nat.ne_of_lt (Heap.lt_size e)
 have Q:jC (envOfC qual scope s₀.heap.objs.size f cd :: outer)=s₀.heap.objs.size :: jC outer:=rfl
 have hfr:∀ b∈jC (envOfC qual scope s₀.heap.objs.size f cd :: outer),∀ o,s'.heap.get? b=some o→∀ vs,o.data≠ .fields vs:=fun b p o eo=>by
  refine r9 (fl.2.2.1.mem p) fun _ o' e' h=> ?_
  rw [eo] at e'; cases e'
  exact h
 have Ib:=I.base
 have U:∀ b:Addr,b∉(qK (CXF P w) P w K mg base N qual scope f cd A outer s₀ H₀ E).ex:=fun b z=>absurd (show b∈([]:List Addr) from z) (by simp)
 have nL:H' s₀.heap.objs.size=none:=by
  obtain ⟨m,⟨o,_,_,ho,_⟩,_⟩:=I.loc
  exact un.free _ o ho I.free (by simp)
 show wpAny _ _ (leaving _ (.ref e)) _ _ s'
 refine wpAny_leaves_onW (base:=B) I.ok.frames rfl fl fun h2 fl2 up=> ?_
 have R:∀ b o,s'.heap.get? b=some o→b∉jC outer→b≠s₀.heap.objs.size→((∃ u,H' b=some u)∨∃ o',s.heap.get? b=some o')→h2.get? b=some o:=fun b o i nb nl hh=>
  fl2.1 b o (cov b o i (by show b∉s₀.heap.objs.size :: jC outer; simp [nl,nb]) hh)
 have Y:∀ b o,s'.heap.get? b=some o→b∈jC outer→∃ sl,h2.get? b=some { o with slots:=sl }:=fun b o i p=>
  up b o i (hfr b (by rw [Q]; exact cI p) o i)
 have T:∀ b o,s₀.heap.get? b=some o→∃ V,s.heap.get? b=some V:=fun b o S=>Ib.there b o S (U b)
 have hUn:Un (jC outer) [] H₀ H' s₀.heap h2:={
  keep:=fun b o S n p _=>by
   have i:=Ib.keep b o S n p (U b)
   have n1:=Ib.free b o S n (U b)
   have hb2:b∉jC (envOfC qual scope s₀.heap.objs.size f cd :: outer):=by rw [Q]; simp [X S,p]
   exact R b o (un.keep b o i n1 hb2 (by simp)) p (X S) (.inr ⟨o,i⟩)
  slot:=fun b o S n p _=>by
   obtain ⟨s1,i⟩:=Ib.slot b o S n p (U b)
   have n1:=Ib.free b o S n (U b)
   obtain ⟨s2,r⟩:=un.any i n1 (by simp)
   obtain ⟨s3,e3⟩:=Y b _ r p
   exact ⟨s3,e3⟩
  free:=fun b o S n _=>by
   obtain ⟨V,i⟩:=T b o S
   exact un.free b V i (Ib.free b o S n (U b)) (by simp)
  there:=fun b o S _=>by
   obtain ⟨V,i⟩:=T b o S
   obtain ⟨o2,r⟩:=un.there b V i (by simp)
   by_cases p:b∈jC outer
   ·obtain ⟨s3,e3⟩:=Y b o2 r p
    exact ⟨_,e3⟩
   ·exact ⟨o2,R b o2 r p (X S) (.inr ⟨V,i⟩)⟩
  tups:=fun b xs q=>un.tups b xs (Ib.tups b xs q)
  frzs:=fun b o u q=>un.frzs b o u (Ib.frzs b o u q)
  tbls:=fun b ps q=>by
   obtain ⟨m1,i⟩:=Ib.tbls b ps q
   obtain ⟨m2,r⟩:=un.tbls b _ i
   exact ⟨m1 ++ m2,by rw [r,Array.append_assoc]⟩ }
 have frf':∀ b u,H' b=some u→b∉jC outer∧b≠s₀.heap.objs.size:=fun b u i=>by
  refine ⟨fun p=> ?_,fun z=>by rw [z,nL] at i; cases i⟩
  have n0:H b=none:=I.stkFree b (by show b∈jC (envOfC qual scope s₀.heap.objs.size f cd :: outer); rw [Q]; exact cI p)
  refine r9 (I.stack.mem (show b∈jC (envOfC qual scope s₀.heap.objs.size f cd :: outer) by rw [Q]; exact cI p)) fun _ o eo _=> ?_
  rw [un.free b o eo n0 (by simp)] at i; cases i
 have hok2:HOk P w H' h2:=hok.onto fun b o u p eo=>R b o eo (frf' b u p).1 (frf' b u p).2 (.inl ⟨u,p⟩)
 have cov2:∀ b o,h2.get? b=some o→b∉jC outer→((∃ u,H' b=some u)∨∃ o',s₀.heap.get? b=some o')→B.get? b=some o:=fun b o r p hh=>by
  rcases hh with ⟨u,hu⟩ | ⟨o0,S⟩
  ·obtain ⟨V,i⟩:=(hok b u hu).at
   have z:=R b V i (frf' b u hu).1 (frf' b u hu).2 (.inl ⟨u,hu⟩)
   rw [r] at z; cases z
   exact cov b o i (by show b∉s₀.heap.objs.size :: jC outer; simp [p,(frf' b u hu).2]) (.inl ⟨u,hu⟩)
  ·obtain ⟨V,i⟩:=T b o0 S
   obtain ⟨o2,e3⟩:=un.there b V i (by simp)
   have z:=R b o2 e3 p (X S) (.inr ⟨V,i⟩)
   rw [r] at z; cases z
   exact cov b o e3 (by show b∉s₀.heap.objs.size :: jC outer; simp [p,X S]) (.inr ⟨V,i⟩)
 refine ⟨e,cls,a0,B,H',rfl,os.trans I.os,bare,hUn,hok2,fl2,cov2,hn,?_,he _ _ _ q⟩
 cases z:s₀.heap.get? e with
 | none=>rfl
 | some o=>
  obtain ⟨V,i⟩:=T e o z
  rw [hs] at i; cases i
end
section
variable{X:Cx}
end
section
variable{X:Cx}{pins:List (Addr×Obj)}{σ:St}{H H':Hp}{s:Shared}
noncomputable def Gh (e:Addr)(cls:Value):HO:= .ext fun h=>∃ o,h.get? e=some o∧o.cls=cls
end
noncomputable def dA:Addr→List (Str×NameKind)→List (Str×Addr)→List (Str×Addr)
 | _,[],cs=>cs
 | k,(n,kd) :: r,cs=>if (kd == .cell)=true then dA (k+1) r ((n,k) :: cs) else dA k r cs
theorem dL {α:Type}{x:Str}{c:α}:∀ {l:List (Str×α)},l.lookup x=some c→(x,c)∈l
 | [],h=>by simp at h
 | (n,d) :: r,h=>by
  rw [List.lookup_cons] at h
  split at h
  ·rename_i hy
   cases h
   have hy':x=n:=by simpa using hy
   rw [hy']; exact List.mem_cons_self
  ·exact cI (dL h)
theorem mi:∀ {l:List (Str×NameKind)} {k:Addr} {cs:List (Str×Addr)},(∀ p∈cs,p.2 < k)→(∀ x y c,(x,c)∈cs→(y,c)∈cs→x=y)→∀ x y c,(x,c)∈dA k l cs→(y,c)∈dA k l cs→x=y
 | [],_,_,_,h=>h
 | (n,kd) :: r,k,cs,h1,h2=>by
  unfold dA
  split
  ·refine mi (fun p hp=> ?_) fun x y c hx hy=> ?_
   ·rcases List.mem_cons.mp hp with e | e
    ·rw [e]; exact Nat.lt_succ_self _
    ·exact Nat.lt_succ_of_lt (h1 p e)
   ·rcases List.mem_cons.mp hx with e | e <;> rcases List.mem_cons.mp hy with f | f
    ·cases e; cases f; rfl
    ·cases e; exact absurd (h1 _ f) (Nat.lt_irrefl _)
    ·cases f; exact absurd (h1 _ e) (Nat.lt_irrefl _)
    ·exact h2 x y c e f
  ·exact mi h1 h2
theorem i4 {x:Str}:∀ {l:List (Str×NameKind)} {k:Addr} {cs:List (Str×Addr)},(∃ c,cs.lookup x=some c)→∃ c,(dA k l cs).lookup x=some c
 | [],_,_,h=>h
 | (n,kd) :: r,k,cs,h=>by
  unfold dA
  split
  ·refine i4 ?_
   rw [List.lookup_cons]
   split
   ·exact ⟨_,rfl⟩
   ·exact h
  ·exact i4 h
theorem qG {x:Str}:∀ {l:List (Str×NameKind)} {k:Addr} {cs:List (Str×Addr)},(x,NameKind.cell)∈l→∃ c,(dA k l cs).lookup x=some c
 | (n,kd) :: r,k,cs,h=>by
  unfold dA
  rcases List.mem_cons.mp h with e | e
  ·cases e
   rw [if_pos (beq_self_eq_true _)]
   exact i4 ⟨k,by rw [List.lookup_cons]; simp⟩
  ·split <;> exact qG e
theorem mj {x:Str}:∀ {l:List (Str×NameKind)} {k:Addr} {cs:List (Str×Addr)},(x,NameKind.cell)∉l→(dA k l cs).lookup x=cs.lookup x
 | [],_,_,_=>rfl
 | (n,kd) :: r,k,cs,h=>by
  have hr:(x,NameKind.cell)∉r:=fun z=>h (cI z)
  unfold dA
  split
  ·rename_i hk
   have hk':kd= .cell:=by simpa using hk
   rw [mj hr,List.lookup_cons]
   have hne:(x == n)=false:=beq_eq_false_iff_ne.mpr fun z=>h (by rw [z,hk']; exact List.mem_cons_self)
   rw [hne]
  ·exact mj hr
section
variable{M:Model}{A:Around}{E:Value→Shared→Prop}
theorem jv:∀ (l:List (Str×NameKind)) (cs:List (Str×Addr)) (s:Shared) (Q:List (Str×Addr)→Shared→Prop),
  (∀ h':Heap,(∀ b o,s.heap.get? b=some o→h'.get? b=some o)→(∀ x c,(x,c)∈dA s.heap.objs.size l cs→(x,c)∈cs∨(s.heap.objs.size≤c∧∃ v,h'.IsCell c v))→Q (dA s.heap.objs.size l cs) { s with heap:=h' })→
  wpAny M A (forIn l cs fun x r=>if (x.2 == NameKind.cell)=true then do let a ← alloc { cls:= .type "cell",data:= .cell none }; pure (ForInStep.yield ((x.1,a) :: r)) else pure (ForInStep.yield r):Sem (List (Str×Addr))) Q E s
 | [],cs,s,Q,h=>wpAny_pure (h s.heap (fun _ _ e=>e) fun x c hx=> .inl hx)
 | (n,kd) :: r,cs,s,Q,h=>by
  rw [List.forIn_cons]
  by_cases hk:(kd == NameKind.cell)=true
  ·simp only [hk,if_true]
   refine wpAny_bind (wpAny_bind (wpAny_alloc (wpAny_pure (jv r _ _ Q fun h' k1 k2=> ?_))))
   have hs:(s.heap.push { cls:= .type "cell",data:= .cell none }).objs.size=s.heap.objs.size+1:=Heap.size_push ..
   have e:dA s.heap.objs.size ((n,kd) :: r) cs=dA (s.heap.objs.size+1) r ((n,s.heap.objs.size) :: cs):=by conv=>lhs; unfold dA; rw [if_pos hk]
   dsimp only at k1 k2 ⊢
   rw [hs] at k2 ⊢
   have key:=h h' (fun b o eb=>k1 b o (Heap.get?_push_of_some _ eb)) fun x c hx=>by
    rw [e] at hx
    rcases k2 x c hx with z | z
    ·rcases List.mem_cons.mp z with y | y
     ·cases y
      exact .inr (mL (Nat.le_refl _) none _ (k1 _ _ (Heap.get?_push_size _ rfl)) rfl)
     ·exact .inl y
    ·exact .inr ⟨Nat.le_of_succ_le z.1,z.2⟩
   rw [e] at key
   exact key
  ·simp only [hk,if_false]
   refine wpAny_bind (wpAny_pure (jv r _ _ Q fun h' k1 k2=> ?_))
   have e:dA s.heap.objs.size ((n,kd) :: r) cs=dA s.heap.objs.size r cs:=by conv=>lhs; unfold dA; rw [if_neg hk]
   rw [← e] at k2 ⊢
   exact h h' k1 k2
theorem zO {s:Shared}{scope:Scope}{globals:Addr}{cl:List (Str×Addr)}{qual:Str}{env:Env}{Q:Env→Shared→Prop}
  (q:∀ h':Heap,(∃ m,h'.Ns s.heap.objs.size m)→(∀ b o,s.heap.get? b=some o→h'.get? b=some o)→(∀ x c,(x,c)∈dA (s.heap.objs.size+1) scope.names cl→(x,c)∈cl∨(s.heap.objs.size < c∧∃ v,h'.IsCell c v))→Q { scope:=scope,locals:=s.heap.objs.size,globals:=globals,cells:=dA (s.heap.objs.size+1) scope.names cl,qual:=qual,func:=none,code:=env.code,frame:=env.frame,builtins:=env.builtins } { s with heap:=h' }) :
  wpAny M A (newFunctionEnv scope globals cl [] qual none .none (some env)) Q E s:=by
 unfold newFunctionEnv
 refine wpAny_bind (wpAny_alloc (wpAny_bind ?_))
 have hs:(s.heap.push { cls:= .type "dict",data:= .dict #[] }).objs.size=s.heap.objs.size+1:=Heap.size_push ..
 refine jv scope.names cl { s with heap:=s.heap.push { cls:= .type "dict",data:= .dict #[] } } _ fun h' k1 k2=> ?_
 dsimp only at k1 k2 ⊢
 rw [hs] at k2 ⊢
 refine wpAny_bind (wpAny_pure (wpAny_pure (q h' (mN (fun _=>none) _ (#[]) 0 (k1 _ _ (Heap.get?_push_size _ rfl)) rfl ?_ (fun _=>rfl)) (fun b o e=>k1 b o (Heap.get?_push_of_some _ e)) fun x c hx=>k2 x c hx)))
 exact (by simp [StrKeys])
end
noncomputable def dB (cells:List (Str×Addr)):List (Str×NameKind)→List (Str×Addr)→List (Str×Addr)
 | [],cs=>cs
 | (n,k) :: r,cs=>dB cells r (if k == .free then (match cells.lookup n with | some c=>(n,c) :: cs | none=>cs) else cs)
theorem jg {scope:Scope}{env:Env}(h:∀ y∈scope.names,y.2= .free→∃ c,env.cells.lookup y.1=some c):closureFor scope env=pure (dB env.cells scope.names []):=by
 unfold closureFor
 have go:∀ (l:List (Str×NameKind)) (cs:List (Str×Addr)),(∀ y∈l,y.2= .free→∃ c,env.cells.lookup y.1=some c)→
   (forIn l cs fun x r=>if (x.2 == NameKind.free)=true then do let c ← cellOf env x.1; pure (ForInStep.yield ((x.1,c) :: r)) else pure (ForInStep.yield r):Sem (List (Str×Addr)))=pure (dB env.cells l cs):=by
  intro l
  induction l with
  | nil=>intro cs _; rfl
  | cons x r ih=>
   intro cs hl
   obtain ⟨n,k⟩:=x
   rw [List.forIn_cons]
   by_cases hk:k= .free
   ·subst hk
    obtain ⟨c,hc⟩:=hl (n,.free) List.mem_cons_self rfl
    have hc':env.cells.lookup n=some c:=hc
    have e:cellOf env n=pure c:=by unfold cellOf; rw [hc']
    simp only [beq_self_eq_true,if_true,e,pure_bind,dB,hc']
    exact ih _ fun y hy=>hl y (cI hy)
   ·have e:(k == NameKind.free)=false:=by simpa using hk
    simp only [e,Bool.false_eq_true,if_false,pure_bind,dB]
    exact ih _ fun y hy=>hl y (cI hy)
 have:=go scope.names [] h
 simpa using this
theorem ol {cells:List (Str×Addr)}:∀ {l:List (Str×NameKind)} {cs:List (Str×Addr)} {x:Str},(∃ c,cs.lookup x=some c)→∃ c,(dB cells l cs).lookup x=some c
 | [],cs,x,h=>h
 | (n,k) :: r,cs,x,⟨c,h⟩=>by
  unfold dB
  refine ol ?_
  split
  ·split
   ·rw [List.lookup_cons]
    split
    ·exact ⟨_,rfl⟩
    ·exact ⟨c,h⟩
   ·exact ⟨c,h⟩
  ·exact ⟨c,h⟩
theorem mn {cells:List (Str×Addr)}:∀ {l:List (Str×NameKind)} {cs:List (Str×Addr)} {x:Str},(x,NameKind.free)∈l→(∃ c,cells.lookup x=some c)→∃ c,(dB cells l cs).lookup x=some c
 | (n,k) :: r,cs,x,hm,⟨c,hc⟩=>by
  rcases List.mem_cons.mp hm with e | hm
  ·cases e
   unfold dB
   refine ol ?_
   rw [if_pos (by rfl),hc]
   exact ⟨c,by rw [List.lookup_cons]; simp⟩
  ·unfold dB
   exact mn hm ⟨c,hc⟩
theorem iR {env:Env}:∀ {names:List (Str×NameKind)} {x:Str} {k:NameKind},
  (names.map fun (n,k)=>if (k == NameKind.free && env.scope.kind == .function && env.kindOf n == some .cell) then (n,NameKind.cell) else (n,k)).lookup x=some k→(k= .cell∨k= .free)→(x,NameKind.free)∈names∨(x,NameKind.cell)∈names
 | [],_,_,h,_=>by simp at h
 | (n,k0) :: r,x,k,h,hk=>by
  have ih:= @iR env r x k
  rw [List.map_cons,List.lookup_cons] at h
  by_cases c:(k0 == NameKind.free && env.scope.kind == .function && env.kindOf n == some .cell)=true
  ·have hf:k0= .free:=by
    simp only [Bool.and_eq_true,beq_iff_eq] at c
    exact c.1.1
   subst hf
   rw [if_pos c] at h
   dsimp only at h
   split at h
   ·rename_i hy
    have:x=n:=by simpa using hy
    subst this
    exact .inl List.mem_cons_self
   ·exact (ih h hk).imp (List.mem_cons_of_mem _) (List.mem_cons_of_mem _)
  ·rw [if_neg c] at h
   dsimp only at h
   split at h
   ·rename_i hy
    have:x=n:=by simpa using hy
    subst this
    cases h
    rcases hk with rfl | rfl
    ·exact .inr List.mem_cons_self
    ·exact .inl List.mem_cons_self
   ·exact (ih h hk).imp (List.mem_cons_of_mem _) (List.mem_cons_of_mem _)
theorem hG {env:Env}:∀ {names:List (Str×NameKind)} {x:Str},names.lookup x=some .free→
  (names.map fun (n,k)=>if (k == NameKind.free && env.scope.kind == .function && env.kindOf n == some .cell) then (n,NameKind.cell) else (n,k)).lookup x=some .cell∨
  (names.map fun (n,k)=>if (k == NameKind.free && env.scope.kind == .function && env.kindOf n == some .cell) then (n,NameKind.cell) else (n,k)).lookup x=some .free
 | [],_,h=>by simp at h
 | (n,k0) :: r,x,h=>by
  have ih:= @hG env r x
  rw [List.lookup_cons] at h
  rw [List.map_cons,List.lookup_cons]
  by_cases c:(k0 == NameKind.free && env.scope.kind == .function && env.kindOf n == some .cell)=true
  ·rw [if_pos c]
   dsimp only
   split at h
   ·exact .inl rfl
   ·exact ih h
  ·rw [if_neg c]
   dsimp only
   split at h
   ·exact .inr h
   ·exact ih h
theorem g_ {env:Env}:∀ {names:List (Str×NameKind)} {x:Str},names.lookup x=some .cell→
  (names.map fun (n,k)=>if (k == NameKind.free && env.scope.kind == .function && env.kindOf n == some .cell) then (n,NameKind.cell) else (n,k)).lookup x=some .cell
 | [],_,h=>by simp at h
 | (n,k0) :: r,x,h=>by
  have ih:= @g_ env r x
  rw [List.lookup_cons] at h
  rw [List.map_cons,List.lookup_cons]
  by_cases c:(k0 == NameKind.free && env.scope.kind == .function && env.kindOf n == some .cell)=true
  ·rw [if_pos c]
   dsimp only
   split at h
   ·rfl
   ·exact ih h
  ·rw [if_neg c]
   dsimp only
   split at h
   ·exact h
   ·exact ih h
theorem cP {env:Env}{scope:Scope}{x:Str}(h:si scope x):si (relabel scope env) x∧((scope.names.lookup x == some NameKind.cell)=true∨(relabel scope env).names.lookup x=some .local):=by
 rcases h with h | h
 ·have:=lookup_relabel_local (env:=env) h
  exact ⟨.inl this,.inr this⟩
 ·exact ⟨.inr (g_ h),.inl (by rw [h]; rfl)⟩
noncomputable abbrev Cx.comp (X:Cx)(s:Shared)(H:Hp)(scope:Scope)(C:Addr)(N:List Str)(ex:List Addr):Cx:=
 { X with N:=N,s₀:=s,H₀:=H,env:=compEnvC scope (dA (C+1) scope.names (dB X.env.cells scope.names [])) C X.env,outer:=X.stack,stack:=X.stack,ex:=ex,fn:=fun x=>scope.names.lookup x == some .cell,pn:=[],xe:=fun _ _=>False }
theorem mq {cells:List (Str×Addr)}{x:Str}{c:Addr}:∀ {l:List (Str×NameKind)} {cs:List (Str×Addr)},(x,c)∈dB cells l cs→(∀ p∈cs,cells.lookup p.1=some p.2)→cells.lookup x=some c
 | [],cs,h,hs=>hs _ h
 | (n,k) :: r,cs,h,hs=>by
  unfold dB at h
  refine mq h fun p hp=> ?_
  split at hp
  ·split at hp
   ·rename_i c' hc'
    rcases List.mem_cons.mp hp with e | e
    ·rw [e]; exact hc'
    ·exact hs p e
   ·exact hs p hp
  ·exact hs p hp
theorem oj {cells:List (Str×Addr)}{x:Str}{c:Addr}:∀ {l:List (Str×NameKind)} {cs:List (Str×Addr)},(x,c)∈dB cells l cs→(x,c)∈cs∨(x,NameKind.free)∈l
 | [],cs,h=> .inl h
 | (n,k) :: r,cs,h=>by
  unfold dB at h
  rcases oj h with z | z
  ·split at z
   ·rename_i hk
    have hk':k= .free:=by simpa using hk
    split at z
    ·rcases List.mem_cons.mp z with e | e
     ·cases e; exact .inr (by rw [hk']; exact List.mem_cons_self)
     ·exact .inl e
    ·exact .inl z
   ·exact .inl z
  ·exact .inr (cI z)
structure CompSc (X:Cx)(scope:Scope)(N:List Str)(caps:List (Option Nat)):Prop where
 kind:scope.kind= .function
 freek:∀ y∈scope.names,y.2= .free→scope.names.lookup y.1=some .free
 cellk:∀ y∈scope.names,y.2= .cell→scope.names.lookup y.1=some .cell
 names:∀ y∈scope.names,y.2= .local→scope.names.lookup y.1=some .local
 free:∀ y∈scope.names,y.2= .free→X.env.scope.names.lookup y.1=some .cell∨X.env.scope.names.lookup y.1=some .free
 nd:N.Nodup
 len:caps.length=N.length
 capf:∀ (j k:Nat) (x:Str),caps[j]?=some (some k)→N[j]?=some x→scope.names.lookup x=some .free
 cap:∀ (j k:Nat) (x:Str),caps[j]?=some (some k)→N[j]?=some x→X.N[k]?=some x∧(X.env.scope.names.lookup x=some .cell∨X.env.scope.names.lookup x=some .free)
noncomputable def eO (caps:List (Option Nat))(σ:St):St:=caps.map fun o=>o.bind fun k=>(σ[k]?).join
theorem oi {caps:List (Option Nat)}{σ:St}{j:Nat}{v:V}(h:(eO caps σ)[j]?=some (some v)):∃ k,caps[j]?=some (some k)∧σ[k]?=some (some v):=by
 unfold eO at h
 rw [List.getElem?_map] at h
 cases e:caps[j]? with
 | none=>rw [e] at h; cases h
 | some o=>
  rw [e] at h
  cases o with
  | none=>simp at h
  | some k=>
   refine ⟨k,rfl,?_⟩
   simp only [Option.map_some,Option.bind_some] at h
   cases e2:σ[k]? with
   | none=>rw [e2] at h; simp at h
   | some o2=>rw [e2] at h; simp at h; rw [h]
section
variable{X:Cx}{pins:List (Addr×Obj)}{σ:St}{H:Hp}{s:Shared}{scope:Scope}{N:List Str}{caps:List (Option Nat)}
theorem Inv.comp {h₁:Heap}{C:Addr}{fp:List Addr}{t':Nat}(I:Inv X pins σ H s)(S:CompSc X scope N caps)(hC:s.heap.objs.size≤C)(hf:∀ b∈fp,iA X pins H b)(hfp:∀ b∈fp,b < s.heap.objs.size)
  (old:∀ b o,s.heap.get? b=some o→h₁.get? b=some o) (nc:∀ x c,(x,c)∈dA (C+1) scope.names (dB X.env.cells scope.names [])→(x,c)∈dB X.env.cells scope.names []∨(C < c∧∃ v,h₁.IsCell c v)) (ns:∃ m,h₁.Ns C m):Inv (X.comp s H scope C N fp) [] (eO caps σ) H { s with heap:=h₁,toks:=t' }:=by
 have Y:∀ {x c},(x,c)∈dB X.env.cells scope.names []→X.env.cells.lookup x=some c:=fun e=>mq e (fun p z=>by cases z)
 have hcl:∀ x c,(dB X.env.cells scope.names []).lookup x=some c→X.env.cells.lookup x=some c:=fun x c e=>Y (dL e)
 have hce:∀ {x c},(dA (C+1) scope.names (dB X.env.cells scope.names [])).lookup x=some c→X.env.cells.lookup x=some c∨(C < c∧∃ v,h₁.IsCell c v):=fun e=>(nc _ _ (dL e)).imp Y id
 have olt:∀ p∈dB X.env.cells scope.names [],p.2 < C+1:=fun p hp=>by
  obtain ⟨v,z⟩:=I.cell p.1 p.2 (Y hp)
  exact Nat.lt_succ_of_lt (Nat.lt_of_lt_of_le z.lt hC)
 have hsub:=I.stkSub
 obtain ⟨m1,hn1⟩:=ns
 have notC:∀ {b:Addr},b < s.heap.objs.size→b≠C:=fun q=>Nat.ne_of_lt (Nat.lt_of_lt_of_le q hC)
 have hasF:∀ x,(x,NameKind.free)∈scope.names→∃ c,X.env.cells.lookup x=some c:=fun x hx=>I.ok.has x (S.free (x,.free) hx rfl)
 refine ⟨⟨I.ok.mod,S.kind,I.ok.glob,I.ok.blt,hC,fun x y c e1 e2=>mi olt (fun x y c e1 e2=>I.ok.inj x y c (Y e1) (Y e2)) x y c (dL e1) (dL e2),fun x hx=> ?_,fun x c hx e=> ?_,I.ok.hd,I.ok.frames,.inl rfl,fun b q=>⟨notC (hfp b q),fun x c e=>(hce e).elim ((hf b q).2.2.2.2.1 x c) fun z=>Nat.ne_of_gt (Nat.lt_of_lt_of_le (hfp b q) (Nat.le_trans hC (Nat.le_of_lt z.1)))⟩,I.bs,Nat.le_trans I.ok.bsz I.sz,fun b o e q=> ?_,fun b q z=> ?_,I.stack,I.stkFree⟩,
  rfl,I.bare,Un.kept old,⟨m1,hn1,fun j y v e1 e2 e3=> ?_⟩,fun x c e=> ?_,I.hok.fresh hC,fun x c e=>(hce e).elim (I.freeC x c) fun z=>I.hok.fresh (Nat.le_trans hC (Nat.le_of_lt z.1)),fun p hp=>absurd (show p∈([]:List (Addr×Obj)) from hp) (by simp),I.hok.kept old,by rw [show (eO caps σ).length=caps.length by simp [eO]]; exact S.len⟩
 ·have hx':(relabel scope X.env).names.lookup x=some .cell∨(relabel scope X.env).names.lookup x=some .free:=hx
  have hm:(x,NameKind.free)∈scope.names∨(x,NameKind.cell)∈scope.names:=by
   rcases hx' with e | e
   ·exact iR e (.inl rfl)
   ·exact iR e (.inr rfl)
  rcases hm with hm | hm
  ·exact i4 (mn hm (hasF x hm))
  ·exact qG hm
 ·have hx:(scope.names.lookup x == some NameKind.cell)=true:=hx
  have ho:(dA (C+1) scope.names (dB X.env.cells scope.names [])).lookup x=some c:=e
  rcases nc x c (dL ho) with z | z
  ·rw [S.freek _ ((oj z).resolve_left fun y=>by cases y) rfl] at hx
   cases hx
  ·exact Nat.le_trans hC (Nat.le_of_lt z.1)
 ·refine qx (hf b q) fun f0 f1 f2 f3 _=> ?_
  rcases f3 with z | z
  ·exact I.ok.noex b o e z
  ·exact absurd (Nat.lt_of_lt_of_le (Heap.lt_size e) (Nat.le_trans I.ok.bsz z)) (Nat.lt_irrefl _)
 ·refine r_ (hf b q) fun f0 f1 f2 _=> ?_
  rcases List.mem_cons.mp (hsub b z) with e | e
  ·exact f1 e
  ·exact f2 e
 ·refine cps fun PP kP=> ?_
  obtain ⟨k,c1,c2⟩:=oi e2
  obtain ⟨c3,c4⟩:=S.cap j k y c1 e1
  obtain ⟨m,hn,hl⟩:=I.loc
  obtain ⟨u,r,l⟩:=hl k y v c3 c2 (by rcases c4 with z | z; exact .inr (.inl z); exact .inr (.inr z))
  refine kP ?_; clear kP PP
  refine ⟨u,r,.inr ?_⟩
  have hv:(relabel scope X.env).names.lookup y=some .cell∨(relabel scope X.env).names.lookup y=some .free:=hG (S.capf j k y c1 e1)
  have hfr:=S.capf j k y c1 e1
  have hm:(y,NameKind.free)∈scope.names:=dL hfr
  obtain ⟨c,hc⟩:=mn (cells:=X.env.cells) (cs:=[]) hm (hasF y hm)
  refine (mM hv c ((mj (fun z=>by have:=S.cellk _ z rfl; rw [hfr] at this; cases this)).trans hc) ?_)
  rcases l with ⟨k1,_⟩ | ⟨_,c',hc',z⟩
  ·exfalso
   have k1':X.env.scope.names.lookup y=some .local:=k1
   rcases c4 with z | z <;> (rw [k1'] at z; cases z)
  ·rw [hcl y c hc] at hc'
   cases hc'
   obtain ⟨o,eo,d⟩:=z
   exact ⟨o,old _ _ eo,d⟩
 ·rcases hce e with z | z
  ·refine lh (I.cell x c z) fun v o eo d=> ?_
   exact (kQ v o (old _ _ eo) d)
  ·exact z.2
end
section
variable{prog:Program}{w:World}{A:Around}{E:Value→Shared→Prop}{R:Result→Shared→Prop}{s:Shared}
theorem vm {elt target iter:Expr}{ifs:List Expr}{scope:Scope}{pos:Pos}{it acc:Value}{env:Env}(I:Nat→Shared→Prop)
  (turn:∀ n s,I n s→wpAny (model prog w) A (pyNext it) (fun r s₁=>match r with
   | none=>R (.ok .next) s₁
   | some v=>wpAny (model prog w) A (letOwnedTupleGo target it v) (fun _ s₁'=>wpAny (model prog w) A (assign target env v) (fun _ s₂=>
     wpAny (model prog w) A (forIn ifs true fun c r=>if r=true then do let ok ← isTrue c env (eval c env); pure (ForInStep.yield ok) else pure (ForInStep.yield r)) (fun ok s₃=>
      if ok=true then wpAny (model prog w) A (eval elt env) (fun x s₄=>
       wpAny (model prog w) A (call (.builtin "list.append") [acc,x]) (fun _ s₅=>∃ m,m < n∧I m s₅) (notedBy (model prog w) A env fun e s'=>R (.error e) s') s₄) (notedBy (model prog w) A env fun e s'=>R (.error e) s') s₃
      else ∃ m,m < n∧I m s₃) (notedBy (model prog w) A env fun e s'=>R (.error e) s') s₂) (notedBy (model prog w) A env fun e s'=>R (.error e) s') s₁') (notedBy (model prog w) A env fun e s'=>R (.error e) s') s₁) (notedBy (model prog w) A env fun e s'=>R (.error e) s') s)
  (n:Nat) (h:I n s) :
  codeAny (model prog w) A (.compLoop (.ListComp elt [⟨target,iter,ifs,0⟩] scope pos) 0 it acc env) R s:=by
 refine codeAny_loop rfl I (fun n s hI=> ?_) n h
 show wpAny _ A ((compTurn (.ListComp elt [⟨target,iter,ifs,0⟩] scope pos) 0 it acc env).onRaise (fun x=>do noteFrame x env; theTreesLotGoes x)) _ _ s
 refine wpAny_noted ?_
 rw [compTurn_list]
 refine wpAny_bind (wpAny_standAt (wpAny_bind (wpAny_mono (turn n s hI) (fun r s₁ h₁=> ?_) fun _ _ F=>F)))
 cases r with
 | none=>exact wpAny_pure h₁
 | some v=>
  refine wpAny_bind (wpAny_mono h₁ (fun _ s₁' h₁'=> ?_) fun _ _ F=>F)
  refine wpAny_bind (wpAny_mono h₁' (fun _ s₂ h₂=>wpAny_bind (wpAny_mono h₂ (fun ok s₃ h₃=> ?_) fun _ _ F=>F)) fun _ _ F=>F)
  cases ok with
  | false=>exact wpAny_pure ⟨rfl,h₃⟩
  | true=>
   exact wpAny_bind (wpAny_bind (wpAny_mono h₃ (fun x s₄ h₄=>wpAny_bind (wpAny_mono h₄ (fun _ s₅ h₅=>wpAny_pure (wpAny_pure ⟨rfl,h₅⟩)) fun _ _ F=>F)) fun _ _ F=>F))
end
noncomputable def DH (X:Cx)(ifs:List Expr)(t:TT):Prop:=
 ∀ (pins:List (Addr×Obj)) (s:Shared) (σ:St) (H:Hp) (Q:Bool→Hp→Prop),Inv X pins σ H s→t σ H Q→
  wpAny (model X.prog X.w) X.A (forIn ifs true fun c r=>if r=true then do let ok ← isTrue c X.env (eval c X.env); pure (ForInStep.yield ok) else pure (ForInStep.yield r)) (TP X pins σ Q) X.xe s
theorem Ai {X:Cx}:DH X [] (fun _ H Q=>Q true H):=fun _ _ _ H _ I h=>wpAny_tests_nil ⟨H,I,h⟩
theorem Aj {X:Cx}{c:Expr}{t:TT}(h:PT X c t):DH X [c] t:=fun pins s σ H Q I q=>wpAny_tests_one (h pins s σ H Q I q)
noncomputable def yA (wi:TI)(caps:List (Option Nat))(g:TG)(tc:TT)(te:TE):TE:=fun σ H Q=>wi σ H fun J H1=>∃ W:Nat→Nat→List V→Hp→Prop,(∃ m,W 0 m [] H1)∧∀ i m ys H2,W i m ys H2→
 (J.stop i H2∧ys.length≤sizeLine∧∀ p,H2 p=none→Q (.ref p) (bg H2 p (.lst ys)))∨
 (J.go i H2∧∃ Nx:List V→Hp→Prop,(∀ ys' H',Nx ys' H'→∃ m',m' < m∧W (i+1) m' ys' H')∧
  ∀ x H',J.yld i H2 x H'→g x (eO caps σ) H' fun σ2 H3=>tc σ2 H3 fun b H4=>if b=true then ys.length≤sizeLine∧te σ2 H4 (fun y H5=>Nx (ys ++ [y]) H5) else Nx ys H4)
section
variable{X:Cx}{pins:List (Addr×Obj)}{σ:St}{H:Hp}{s:Shared}{scope:Scope}{N:List Str}{caps:List (Option Nat)}
noncomputable abbrev j5 (us:List Value):Obj:={ cls:= .type "list",data:= .seq us.toArray us.length }
theorem vS (ys:List Value)(y:Value):({ cls:= .type "list",data:= .seq (ys.toArray.push y) (ys.length+1) }:Obj)=j5 (ys ++ [y]):=by
 show ({ cls:= .type "list",data:= .seq (ys.toArray.push y) (ys.length+1) }:Obj)={ cls:= .type "list",data:= .seq (ys ++ [y]).toArray (ys ++ [y]).length }
 rw [List.length_append,List.length_singleton,List.push_toArray]
noncomputable def jN (caps:List (Option Nat))(g:TG):Prop:=∀ x σ0 H Q,g x σ0 H Q→g x σ0 H fun σ2 H2=>Q σ2 H2∧σ2.length=σ0.length∧∀ (j k:Nat) (v:V),caps[j]?=some (some k)→σ0[j]?=some (some v)→σ2[j]?=some (some v)
theorem j9 {i:Nat}(h:caps[i]?=some none):jN caps (bY i):=fun x σ0 H Q q=>by
 refine ⟨q,by simp,fun j k v hj hv=> ?_⟩
 have:j≠i:=fun z=>by rw [z,h] at hj; cases hj
 rw [List.getElem?_set_ne (Ne.symm this)]
 exact hv
theorem mv {elt tg iter:Expr}{ifs:List Expr}{pos:Pos}{it:Addr}{fp:List Addr}{tn:Nat→Heap→Prop}{J:It}{g:TG}{tc:TT}{te:TE}{RR:Value→Addr→Result→Shared→Prop}{E:Value→Shared→Prop}
  (hc:X.calm=true) (I:Inv X pins σ H s) (S:CompSc X scope N caps) (T:Turn X.prog X.w X.K tg J fp it tn) (st:tn 0 s.heap) (hf:∀ b∈fp,iA X pins H b)
  (hg:∀ C ex,PG (X.comp s H scope C N ex) tg g) (ho:jN caps g) (ht:∀ C ex,DH (X.comp s H scope C N ex) ifs tc) (he:∀ C ex,PE (X.comp s H scope C N ex) elt te)
  (W:Nat→Nat→List V→Hp→Prop) (m0:Nat) (w0:W 0 m0 [] H) {Q:VK}
  (turn:∀ i m ys H2,W i m ys H2→(J.stop i H2∧ys.length≤sizeLine∧∀ p,H2 p=none→Q (.ref p) (bg H2 p (.lst ys)))∨
   (J.go i H2∧∃ Nx:List V→Hp→Prop,(∀ ys' H',Nx ys' H'→∃ m',m' < m∧W (i+1) m' ys' H')∧
    ∀ x H',J.yld i H2 x H'→g x (eO caps σ) H' fun σ2 H3=>tc σ2 H3 fun b H4=>if b=true then ys.length≤sizeLine∧te σ2 H4 (fun y H5=>Nx (ys ++ [y]) H5) else Nx ys H4))
  (hRR:∀ (D C:Addr) (s':Shared) (m:Str→Option Value) (H':Hp),s'.heap.Ns C m→Inv X pins σ H' s'→iA X pins H' C→Q (.ref D) H'→RR (.ref D) C (.ok .next) s') :
  wpAny (model X.prog X.w) X.A (newList []) (fun acc s₃=>wpAny (model X.prog X.w) X.A (newFunctionEnv scope X.env.globals (dB X.env.cells scope.names []) [] X.env.qual none .none (some X.env)) (fun cenv s₄=>
   codeAny (model X.prog X.w) X.A (.compStart (.ListComp elt [⟨tg,iter,ifs,0⟩] scope pos) 0 (.ref it) acc { cenv with scope:=relabel scope X.env }) (RR acc cenv.locals) s₄) E s₃) E s:=by
 refine wpAny_newObj_type (zO fun l a Y f=> ?_)
 dsimp only at a Y f ⊢
 generalize hH2:s.heap.push { cls:= .type "list",dict:=none,data:= .seq ([]:List Value).toArray }=H2 at a Y f ⊢
 have hC:H2.objs.size=s.heap.objs.size+1:=by rw [← hH2,Heap.size_push]
 have hDC:s.heap.objs.size≠H2.objs.size:=by rw [hC]; exact Nat.ne_of_lt (Nat.lt_succ_self _)
 have F:s.heap.objs.size≤H2.objs.size:=by rw [hC]; exact Nat.le_succ _
 have old:∀ b o,s.heap.get? b=some o→l.get? b=some o:=fun b o e=>
  Y b o (hH2 ▸ Heap.get?_push_of_some _ e)
 have hacc:l.get? s.heap.objs.size=some (j5 []):=Y _ _ (hH2 ▸ Heap.get?_push_size _ rfl)
 have hfp:∀ b∈fp,b < s.heap.objs.size:=fun b t=>by
  obtain ⟨o,e,_⟩:=T.obj _ _ st b t
  exact Heap.lt_size e
 have R:tn 0 l:=T.keep _ _ _ st fun b t o e=>old b o e
 have I₁:Inv (X.comp s H scope H2.objs.size N fp) [] (eO caps σ) H { s with heap:=l }:=I.comp (t':=s.toks) S F hf hfp old f a
 have cne:∀ x c,(dA (H2.objs.size+1) scope.names (dB X.env.cells scope.names [])).lookup x=some c→X.env.cells.lookup x=some c∨H2.objs.size < c:=fun x c e=>(f x c (dL e)).imp (fun z=>mq z (fun p O=>by cases O)) And.left
 have nfs:∀ {b:Addr},s.heap.objs.size≤b→b∉jC X.stack:=fun t z=>by
  refine r9 (I.stack.mem z) fun _ o ho _=> ?_
  exact absurd (Nat.lt_of_lt_of_le (Heap.lt_size ho) t) (Nat.lt_irrefl _)
 -- what stays true of the iterator's and the gathered list's objects
 have Z:∀ {H':Hp},(∀ b∈fp,H' b=none)→∀ b∈fp,iA (X.comp s H scope H2.objs.size N fp) [] H' b:=fun hn b t=>
  ⟨hn b t,Nat.ne_of_lt (Nat.lt_of_lt_of_le (hfp b t) F),fun z=>(by
   refine r_ (hf b t) fun f0 f1 f2 _=> ?_
   rcases List.mem_cons.mp (I.stkSub b z) with e | e
   ·exact f1 e
   ·exact f2 e),.inl t,fun x c e=>(cne x c e).elim ((hf b t).2.2.2.2.1 x c) fun z=>Nat.ne_of_gt (Nat.lt_of_lt_of_le (hfp b t) (Nat.le_trans F (Nat.le_of_lt z))),fun p O=>absurd (show p∈([]:List (Addr×Obj)) from O) (by simp)⟩
 have statD:∀ {H':Hp},H' s.heap.objs.size=none→iA (X.comp s H scope H2.objs.size N fp) [] H' s.heap.objs.size:=fun hn=>
  (EQ hn hDC (nfs (Nat.le_refl _)) (.inr (Nat.le_refl _)) (fun x c e=>(cne x c e).elim (fun z=>by obtain ⟨v,y⟩:=I.cell x c z; exact Nat.ne_of_lt y.lt) fun z=>Nat.ne_of_gt (Nat.lt_of_le_of_lt F z)) (fun p O=>absurd (show p∈([]:List (Addr×Obj)) from O) (by simp)))
 have loop:∀ s₃:Shared,s₃={ s with heap:=l }→
   codeAny (model X.prog X.w) X.A (.compLoop (.ListComp elt [⟨tg,iter,ifs,0⟩] scope pos) 0 (.ref it) (.ref s.heap.objs.size) (compEnvC scope (dA (H2.objs.size+1) scope.names (dB X.env.cells scope.names [])) H2.objs.size X.env))
    (RR (.ref s.heap.objs.size) H2.objs.size) s₃:=by
  rintro s₃ rfl
  refine vm (fun n s'=>∃ i ys h H',Inv (X.comp s H scope H2.objs.size N fp) [] (eO caps σ) H' s'∧tn i s'.heap∧(∀ b∈fp,H' b=none)∧s'.heap.get? s.heap.objs.size=some (j5 h)∧H' s.heap.objs.size=none∧Vals ys h∧W i n ys H') ?_ m0
   (GM 0 ([]) ([]) H I₁ R (fun b t=>(hf b t).1) hacc (I.hok.fresh (Nat.le_refl _)) .nil w0)
  intro n s3 hZ1
  refine Hr (hZ1) fun i ys h H3 I3 st3 fr3 ha3 hd3 rv3 w3=> ?_
  have pinD:∀ {B:St} {H':Hp} {s':Shared},Inv (X.comp s H scope H2.objs.size N fp) [] B H' s'→s'.heap.get? s.heap.objs.size=some (j5 h)→H' s.heap.objs.size=none→Inv (X.comp s H scope H2.objs.size N fp) [(s.heap.objs.size,j5 h)] B H' s':=fun I' e n=>
   I'.pins_of fun p O=>by
    obtain rfl:=List.mem_singleton.mp O
    exact (sJ e n hDC (nfs (Nat.le_refl _)) (fun v z=>by cases z))
  have L:∀ {H':Hp},(∀ b∈fp,H' b=none)→∀ b∈fp,iA (X.comp s H scope H2.objs.size N fp) [(s.heap.objs.size,j5 h)] H' b:=fun hn b t=>
   ⟨(Z hn b t).1,(Z hn b t).2.1,(Z hn b t).2.2.1,(Z hn b t).2.2.2.1,(Z hn b t).2.2.2.2.1,fun p O=>by
    obtain rfl:=List.mem_singleton.mp (show p∈[(s.heap.objs.size,j5 h)] from O)
    exact Nat.ne_of_gt (hfp b t)⟩
  have I3':=pinD I3 ha3 hd3
  have atD:∀ {pl:List (Addr×Obj)} {B:St} {H':Hp} {s':Shared},Inv (X.comp s H scope H2.objs.size N fp) ([(s.heap.objs.size,j5 h)] ++ pl) B H' s'→s'.heap.get? s.heap.objs.size=some (j5 h)∧H' s.heap.objs.size=none:=fun {pl B H' s'} I'=>
   ⟨(I'.pin (s.heap.objs.size,j5 h) (by simp)).1,(I'.pin (s.heap.objs.size,j5 h) (by simp)).2.1⟩
  rcases turn i n ys H3 w3 with ⟨stop,hsz,fin⟩ | ⟨go,Nx,hN,step⟩
  ·refine aW (wpAny_noRaise (T.done (X.comp s H scope H2.objs.size N fp) rfl rfl rfl hc i [(s.heap.objs.size,j5 h)] s3 _ H3 (fun _ _=>False) I3' (L fr3) st3 stop)) fun r s4 hZ74=> ?_
   refine cps fun PP kP=> ?_
   obtain ⟨hr,I4⟩:=hZ74
   subst hr
   obtain ⟨ha4,M⟩:=atD (pl:=[]) I4
   obtain ⟨m4,hn4,_⟩:=id I4.loc
   refine kP ?_; clear kP PP
   have G:Un (jC X.stack) fp H H3 s.heap s4.heap:=I4.base
   have bC:∀ {b:Addr} {o:Obj},s.heap.get? b=some o→b≠H2.objs.size∧b≠s.heap.objs.size:=fun e=>⟨by rw [hC]; exact Nat.ne_of_lt (Nat.lt_succ_of_lt (Heap.lt_size e)),Nat.ne_of_lt (Heap.lt_size e)⟩
   have freeC:H3 H2.objs.size=none:=I4.free
   have un':Un (jC X.stack) fp H (bg H3 s.heap.objs.size (.lst ys)) s.heap s4.heap:={
    keep:=fun b o e n t hx=>(G.keep b o e n t hx)
    slot:=fun b o e n t hx=>by
     obtain ⟨sl,z⟩:=G.slot b o e n t hx
     exact ⟨sl,z⟩
    free:=fun b o e n hx=>by rw [ai (bC e).2]; exact G.free b o e n hx
    there:=fun b o e hx=>by
     obtain ⟨o',z⟩:=G.there b o e hx
     exact ⟨o',z⟩
    tups:=fun b xs q=>by
     have z:=G.tups b xs q
     rw [ai (aw z M)]; exact z
    frzs:=fun b o u q=>by
     have z:=G.frzs b o u q
     rw [ai (aw z M)]; exact z
    tbls:=fun b ps q=>by
     obtain ⟨mo,z⟩:=G.tbls b ps q
     exact ⟨mo,by rw [ai (aw z M)]; exact z⟩ }
   have hok':HOk X.prog X.w (bg H3 s.heap.objs.size (.lst ys)) s4.heap:=fun b u eb=>by
    by_cases t:b=s.heap.objs.size
    ·subst t; rw [ao] at eb; cases eb
     exact (mL hsz h _ rv3 ha4)
    ·rw [ai t] at eb
     exact (I4.hok b u eb).stay (fun c v hcc q=>q) (fun c q=>by rw [ai (aw q M)]; exact q) fun c xs q=>by rw [ai (aw q M)]; exact q
   have I4':Inv X pins σ (bg H3 s.heap.objs.size (.lst ys)) s4:=I.call' (ch:=fp) I4.os un' hok' I4.bare (fun b t=>(nH ((hf b t).2.2.2.1) ((hf b t).2.1) ((hf b t).2.2.2.2.1) ((hf b t).2.2.2.2.2)))
   exact hRR _ _ s4 m4 _ hn4 I4' (I.fpOk F (by rw [ai (Ne.symm hDC)]; exact freeC)) (fin _ M)
  ·refine aW (wpAny_noRaise (T.item (X.comp s H scope H2.objs.size N fp) rfl rfl rfl hc i [(s.heap.objs.size,j5 h)] s3 _ H3 (fun _ _=>False) I3' (L fr3) st3 go)) fun r s4 hZ75=> ?_
   obtain ⟨u,hr,h4⟩:=hZ75
   subst hr
   refine aW (wpAny_noRaise h4) fun _ s5 hZ76=> ?_
   refine DE (hZ76) fun x H5 I5 r5 y5 st5 fr5=> ?_
   have I5':=I5.pinned (L fr5) (T.obj _ _ st5)
   refine aW (wpAny_noRaise (hg _ _ _ s5 _ H5 x u _ I5' r5 (ho _ _ _ _ (step x H5 y5)))) fun _ s6 hZ77=> ?_
   obtain ⟨σ6,H6,I6,q6,l6,k6⟩:=hZ77
   have P:∀ {pl:List (Addr×Obj)} {H':Hp} {s':Shared},Inv (X.comp s H scope H2.objs.size N fp) pl σ6 H' s'→Inv (X.comp s H scope H2.objs.size N fp) pl (eO caps σ) H' s':=fun I'=>I'.weak l6.symm fun j v e=>by
    obtain ⟨k,c1,c2⟩:=oi e
    exact k6 j k v c1 e
   refine aW (wpAny_noRaise (ht _ _ _ s6 σ6 H6 _ I6 q6)) fun b s7 hZ78=> ?_
   obtain ⟨H7,I7,q7⟩:=hZ78
   have U:∀ {B:St} {H':Hp} {s':Shared},Inv (X.comp s H scope H2.objs.size N fp) ([(s.heap.objs.size,j5 h)] ++ m_ fp s5.heap) B H' s'→tn (i+1) s'.heap∧∀ b∈fp,H' b=none:=fun {B H' s'} I'=>
    ⟨T.keep _ _ _ st5 fun b t o e=>(I'.pin (b,o) (List.mem_append_right _ (List.mem_append_right _ (gX t e)))).1,fun b t=>by
     obtain ⟨o,e,d⟩:=T.obj _ _ st5 b t
     exact (I'.pin (b,o) (List.mem_append_right _ (List.mem_append_right _ (gX t e)))).2.1⟩
   cases b with
   | false=>
    have q7':Nx ys H7:=q7
    refine cps fun PP kP=> ?_
    obtain ⟨m',hm,w7⟩:=hN _ _ q7'
    obtain ⟨ha7,hd7⟩:=atD I7
    obtain ⟨st7,fr7⟩:=U I7
    refine kP ?_; clear kP PP
    exact (EX m' hm (i+1) ys h H7 (P (I7.pins_of fun p O=>absurd O (by simp))) st7 fr7 ha7 hd7 rv3 w7)
   | true=>
    obtain ⟨hsz,q7'⟩:ys.length≤sizeLine∧te σ6 H7 (fun y H5=>Nx (ys ++ [y]) H5):=q7
    show wpAny _ _ (eval elt _) _ _ s7
    refine aW (wpAny_noRaise (he _ _ _ s7 σ6 H7 _ I7 q7')) fun yv s8 hZ79=> ?_
    refine cps fun PP kP=> ?_
    obtain ⟨y,H8,I8,r8,q8⟩:=hZ79
    obtain ⟨ha8,hd8⟩:=atD I8
    obtain ⟨st8,fr8⟩:=U I8
    refine kP ?_; clear kP PP
    refine append_at ha8 (fun h9 sb hD9=> ?_) (by rw [List.size_toArray,← rv3.length]; exact hsz)
    obtain ⟨m',hm,w8⟩:=hN _ _ q8
    have I8':Inv (X.comp s H scope H2.objs.size N fp) [] (eO caps σ) H8 s8:=P (I8.pins_of fun p O=>absurd O (by simp))
    have dD:=statD hd8
    refine (EX m' hm (i+1) (ys ++ [y]) (h ++ [yv]) H8 (I8'.turned (t':=s8.toks) (fun b o t e=>(sb.2 b t).trans e) hd8 dD.2.1 dD.2.2.2.1 dD.2.2.2.2.1 dD.2.2.2.2.2) (T.keep _ _ _ st8 fun b t o e=>(sb.2 b (Nat.ne_of_lt (hfp b t))).trans e) fr8 ?_ hd8 (rv3.append (.cons r8 .nil)) w8)
    rw [hD9,vS]
 exact codeAny_compStart_list (loop _ rfl) (T.self X.A 0 _ _ _ R (loop _ rfl))
theorem uJ {elt tg iter:Expr}{ifs:List Expr}{pos:Pos}{wi:TI}{g:TG}{tc:TT}{te:TE}(hc:X.calm=true)(S:CompSc X scope N caps)(hi:PI X tg iter wi)
  (hg:∀ s H C ex,PG (X.comp s H scope C N ex) tg g) (ho:jN caps g) (ht:∀ s H C ex,DH (X.comp s H scope C N ex) ifs tc) (he:∀ s H C ex,PE (X.comp s H scope C N ex) elt te)
  (hs:∀ x,foldedSetIterable iter X.env x=pure x:=by intro _; rfl):PE X (.ListComp elt [⟨tg,iter,ifs,0⟩] scope pos) (yA wi caps g tc te):=by
 intro pins s σ H Q I h
 rw [eval_ListComp]
 have hcl:closureFor scope X.env=pure (dB X.env.cells scope.names []):=jg fun y hy hk=>I.ok.has y.1 (S.free y hy hk)
 refine wpAny_comprehension_free (use:=none) rfl hs hcl S.kind S.names (aW (hi pins s σ H _ I h) fun v s1 h1=>aW h1 fun itv s2 h2=> ?_)
 obtain ⟨it,fp,tn,J,H2,e,I2,T,st2,f2,W,⟨m0,w0⟩,turn⟩:=h2
 subst e
 refine mv (RR:=fun acc C=>compPost (model X.prog X.w) X.A X.xe none (EP X pins σ Q) acc C) hc I2 S T st2 f2 (hg _ _) ho (ht _ _) (he _ _) W m0 w0 turn ?_
 intro D C s' m H' hn I' fC q
 exact ⟨m,hn,fun h' sb=>⟨.ref D,H',I'.turned (t':=s'.toks) (fun b o hb e=>(sb.2 b hb).trans e) fC.1 fC.2.1 fC.2.2.2.1 fC.2.2.2.2.1 fC.2.2.2.2.2,rfl,q⟩⟩
theorem nh {elt tg iter:Expr}{ifs:List Expr}{pos py spos:Pos}{wi:TI}{g:TG}{tc:TT}{te:TE}{y:Str}{i:Nat}(hN:X.N.Nodup)(hi:X.N[i]?=some y)(hy:X.env.scope.names.lookup y=some .local)
  (hc:X.calm=true) (S:CompSc X scope N caps) (hit:PI X tg iter wi)
  (hg:∀ s H C ex,PG (X.comp s H scope C N ex) tg g) (ho:jN caps g) (ht:∀ s H C ex,DH (X.comp s H scope C N ex) ifs tc) (he:∀ s H C ex,PE (X.comp s H scope C N ex) elt te)
  (hsw:swapsWith (.ListComp elt [⟨tg,iter,ifs,0⟩] scope pos) (some (.Name y py)) spos.line X.env=pure true:=by rfl)
  (hs:∀ x,foldedSetIterable iter X.env x=pure x:=by intro _; rfl):PS X (.Assign [.Name y py] (.ListComp elt [⟨tg,iter,ifs,0⟩] scope pos) spos) (rV (yA wi caps g tc te) (bY i)):=by
 intro B s σ H D I h
 have hcl:closureFor scope X.env=pure (dB X.env.cells scope.names []):=jg fun y hy hk=>I.ok.has y.1 (S.free y hy hk)
 rw [exec_Assign_Name_used _ _ _ _ hsw]
 refine wpAny_bind (wpAny_standAt (wpAny_bind ?_))
 show wpAny _ X.A (do let _ ← comprehension (.ListComp elt [⟨tg,iter,ifs,0⟩] scope pos) scope X.env _ (newList []) false (eval iter X.env) (some (assign (.Name y py) X.env))) _ _ s
 refine wpAny_bind (wpAny_mono (wpAny_comprehension_free (use:=some (assign (.Name y py) X.env)) (Q:=fun _ s'=>SP X B D .next s') rfl hs hcl S.kind S.names
  (aW (hit B s σ H _ I h) fun v s1 h1=>aW h1 fun itv s2 h2=> ?_)) (fun _ s' hq=>wpAny_pure (wpAny_pure hq)) fun _ _ e=>e)
 obtain ⟨it,fp,tn,J,H2,e,I2,T,st2,f2,W,⟨m0,w0⟩,turn⟩:=h2
 subst e
 refine mv (RR:=fun acc C=>compPost (model X.prog X.w) X.A X.xe (some (assign (.Name y py) X.env)) (fun _ s'=>SP X B D .next s') acc C) (Q:=fun x H1=>bY i x σ H1 D.nx) hc I2 S T st2 f2 (hg _ _) ho (ht _ _) (he _ _) W m0 w0 turn ?_
 intro Dd C s' m H' hn I' fC q
 show wpAny _ _ (assign (.Name y py) X.env (.ref Dd)) _ _ s'
 refine wpAny_assign_Name (oW I' (i:=i) hN hi (.inl hy) (v:= .ref Dd) rfl (fun s5 I5 hZ80=> ?_) (.inr hy))
 obtain ⟨a,sb,ha⟩:=hZ80
 have ha':a≠C:=by
  rcases ha with z | z
  ·rw [z]; exact Ne.symm fC.2.1
  ·exact fC.2.2.2.2.1 _ _ z
 refine ⟨m,hn.sameBut sb (Ne.symm ha'),fun h' sb2=>⟨_,H',I5.turned (t':=s5.toks) (fun b o hb e=>(sb2.2 b hb).trans e) fC.1 fC.2.1 fC.2.2.2.1 fC.2.2.2.2.1 fC.2.2.2.2.2,q⟩⟩
end
section
variable{X:Cx}
end
section
variable{X:Cx}{pins:List (Addr×Obj)}{σ:St}{H:Hp}{s:Shared}
structure ExcK (K:W.Frag)(D:Addr):Prop where
 ga:W.findIn K (.ref D) "__getattribute__" =some (some (.builtin "BaseException.__getattribute__"))
 gh:W.findIn K (.ref D) "__getattr__" =some none
 ha:W.findIn K (.ref D) "__class__" =some (some (.builtin "object.__class__"))
 hn:W.specialIn K (.builtin "object.__class__") "__get__" =some (some (.builtin "getset_descriptor.__get__"))
 htk:W.takesIn K (.builtin "object.__class__")=some true
 hm:W.mroIn K D (.type "object")=some true
 hb:W.mroIn K D (.type "BaseException")=some true
 hc:(W.clsIn K D).isSome=true
end
end L2
namespace PySem.W
open PySem PySem.Spec PySem.Calls PyProof.Rows Builtin Builtin.ObjectAttr Builtin.Getset_descriptor
section
variable{prog:Program}{w:World}{A:Around}{E:Value→Shared→Prop}{s:Shared}{K:Frag}{x C:Addr}
end
end PySem.W
namespace L2
open PySem PySem.Spec PyProof.Rows
section
variable{X:Cx}{pins:List (Addr×Obj)}{σ:St}{H:Hp}{s:Shared}
end
inductive D where
 | non | bl (b:Bool) | int (i:Int) | str (x:Str) | lst (l:List D) | tup (l:List D)
 | ins (C:Addr) (ns:List Str) (l:List D)
 | dct (ks:List (List bu)) (l:List D)
 | scr (ns:List Int)
 | xc (C:Addr)
 | fdc (ks:List (List bu)) (l:List D)
inductive Res (α:Type) where
 | ok (a:α) | exc (c:Addr) | bad
noncomputable def Res.bind {α β:Type}:Res α→(α→Res β)→Res β
 | .ok a,f=>f a
 | .exc c,_=> .exc c
 | .bad,_=> .bad
structure LsS (K:W.Frag)(G:Hp)(a:Addr)(xs:List V):Prop where
 h:G a=some (.lst xs)
theorem LsS.of {K:W.Frag}{G:Hp}{a:Addr}{xs:List V}(h:G a=some (.lst xs)):LsS K G a xs:=⟨h⟩
theorem LsS.sq {K:W.Frag}{G:Hp}{a:Addr}{xs:List V}(h:LsS K G a xs):gs K G a xs:= .inl (.inl h.h)
structure TpS (K:W.Frag)(G:Hp)(a:Addr)(xs:List V):Prop where
 h:G a=some (.tup xs)
theorem TpS.of {K:W.Frag}{G:Hp}{a:Addr}{xs:List V}(h:G a=some (.tup xs)):TpS K G a xs:=⟨h⟩
theorem TpS.sq {K:W.Frag}{G:Hp}{a:Addr}{xs:List V}(h:TpS K G a xs):lL K G a xs:= .inl (.inl h.h)
instance {K:W.Frag}{G:Hp}{a:Addr}{xs:List V}:Coe (TpS K G a xs) (lL K G a xs):=⟨TpS.sq⟩
mutual
noncomputable def Rep (K:W.Frag)(G:Hp):D→V→Prop
 | .non,v=>v= .non
 | .bl b,v=>v= .bl b
 | .int i,v=>v= .int i
 | .str x,v=>v= .str x
 | .lst ds,v=>∃ a xs,v= .ref a∧LsS K G a xs∧RepL K G ds xs
 | .tup ds,v=>∃ a xs,v= .ref a∧TpS K G a xs∧RepL K G ds xs
 | .ins C ns ds,v=>∃ a dx fs,v= .ref a∧G a=some (.ins C dx fs)∧fs.map (·.1)=ns∧RepL K G ds (fs.map (·.2))
 | .dct ks ds,v=>∃ a kvs,v= .ref a∧Rd G a (.dT kvs)∧kvs.map (·.1)=ks∧RepL K G ds (kvs.map (·.2))
 | .scr ns,v=>∃ a,v= .ref a∧gs K G a (ns.map V.int)
 | .xc C,v=>∃ a,v= .ref a∧G a=some (Gh a (.ref C))∧ExcK K C
 | .fdc ks ds,v=>∃ a o kvs,v= .ref a∧G a=some (.frz o (.dT kvs))∧kvs.map (·.1)=ks∧RepL K G ds (kvs.map (·.2))
noncomputable def RepL (K:W.Frag)(G:Hp):List D→List V→Prop
 | [],vs=>vs=[]
 | d :: ds,vs=>∃ v r,vs=v :: r∧Rep K G d v∧RepL K G ds r
end
theorem Same.seqT {K:W.Frag}{H H':Hp}{a:Addr}{xs:List V}(e:Same H H')(h:lL K H a xs):lL K H' a xs:=by
 rcases h with (h | ⟨o,h⟩) | h
 ·exact .inl (.inl (e _ _ h))
 ·exact .inl (.inr ⟨o,e _ _ h⟩)
 ·exact .inr h
mutual
theorem Rep.mono {K:W.Frag}{G G':Hp}(e:Same G G'):∀ {d:D} {v:V},Rep K G d v→Rep K G' d v
 | .non,_,h=>h
 | .bl _,_,h=>h
 | .int _,_,h=>h
 | .str _,_,h=>h
 | .lst _,_,h=>by
  unfold Rep at h ⊢
  refine bp (h) fun a xs r s t=> ?_
  exact (du a xs r ⟨e _ _ s.h⟩ (RepL.mono e t))
 | .tup _,_,h=>by
  unfold Rep at h ⊢
  refine bp (h) fun a xs r s t=> ?_
  exact (du a xs r ⟨e _ _ s.h⟩ (RepL.mono e t))
 | .ins _ _ _,_,h=>by
  unfold Rep at h ⊢
  refine jd (h) fun a dx fs r s n t=> ?_
  exact (jh a dx fs r (e _ _ s) n (RepL.mono e t))
 | .dct _ _,_,h=>by
  unfold Rep at h ⊢
  refine nZ (h) fun a kvs r s n t=> ?_
  refine (kR a kvs r ?_ n (RepL.mono e t))
  rcases s with s | ⟨o,s⟩
  ·exact .inl (e _ _ s)
  ·exact .inr ⟨o,e _ _ s⟩
 | .scr _,_,h=>by
  unfold Rep at h ⊢
  obtain ⟨a,r,s⟩:=h
  exact ⟨a,r,e.seq s⟩
 | .xc _,_,h=>by
  unfold Rep at h ⊢
  refine cw (h) fun a r s k=> ?_
  exact (ik a r (e _ _ s) k)
 | .fdc _ _,_,h=>by
  unfold Rep at h ⊢
  refine jd (h) fun a o kvs r s n t=> ?_
  exact (jh a o kvs r (e _ _ s) n (RepL.mono e t))
theorem RepL.mono {K:W.Frag}{G G':Hp}(e:Same G G'):∀ {ds:List D} {vs:List V},RepL K G ds vs→RepL K G' ds vs
 | [],_,h=>h
 | _ :: _,_,h=>by
  unfold RepL at h ⊢
  refine bp (h) fun v r q a b=> ?_
  exact (du v r q (Rep.mono e a) (RepL.mono e b))
end
theorem RepL.length {K:W.Frag}{G:Hp}:∀ {ds:List D} {vs:List V},RepL K G ds vs→ds.length=vs.length
 | [],vs,h=>by unfold RepL at h; rw [h]; rfl
 | d :: ds,vs,h=>by
  unfold RepL at h
  refine bp (h) fun v r hS44 _ b=> ?_; subst hS44
  rw [List.length_cons,List.length_cons,RepL.length b]
theorem RepL.nil {K:W.Frag}{G:Hp}:RepL K G [] []:=by unfold RepL; rfl
theorem RepL.cons {K:W.Frag}{G:Hp}{d:D}{v:V}{ds:List D}{vs:List V}(a:Rep K G d v)(b:RepL K G ds vs):RepL K G (d :: ds) (v :: vs):=by unfold RepL; exact (du v vs rfl a b)
theorem RepL.inv {K:W.Frag}{G:Hp}{d:D}{ds:List D}{vs:List V}(h:RepL K G (d :: ds) vs):∃ v r,vs=v :: r∧Rep K G d v∧RepL K G ds r:=by unfold RepL at h; exact h
theorem RepL.inv0 {K:W.Frag}{G:Hp}{vs:List V}(h:RepL K G [] vs):vs=[]:=by unfold RepL at h; exact h
theorem RepL.append {K:W.Frag}{G:Hp}:∀ {ds es:List D} {vs ws:List V},RepL K G ds vs→RepL K G es ws→RepL K G (ds ++ es) (vs ++ ws)
 | [],_,_,_,h,h'=>by rw [h.inv0]; exact h'
 | _ :: _,_,_,_,h,h'=>by
  refine bp (h.inv) fun v r hS45 a b=> ?_; subst hS45
  exact .cons a (RepL.append b h')
theorem RepL.get {K:W.Frag}{G:Hp}:∀ {ds:List D} {vs:List V} {i:Nat} {d:D},RepL K G ds vs→ds[i]?=some d→∃ v,vs[i]?=some v∧Rep K G d v
 | [],_,_,_,_,e=>by simp at e
 | _ :: _,_,0,_,h,e=>by
  refine bp (h.inv) fun v r hS46 a b=> ?_; subst hS46
  simp at e; subst e
  exact ⟨v,rfl,a⟩
 | _ :: _,_,i+1,_,h,e=>by
  refine cps fun PP kP=> ?_
  refine bp (h.inv) fun v r hS47 a b=> ?_; subst hS47
  obtain ⟨w,h1,h2⟩:=RepL.get (i:=i) b (by simpa using e)
  refine kP ?_; clear kP PP
  exact ⟨w,by simpa using h1,h2⟩
theorem RepL.take {K:W.Frag}{G:Hp}:∀ {ds:List D} {vs:List V} (n:Nat),RepL K G ds vs→RepL K G (ds.take n) (vs.take n)
 | _,_,0,_=>by simpa using RepL.nil
 | [],_,_+1,h=>by rw [h.inv0]; simpa using RepL.nil
 | _ :: _,_,n+1,h=>by
  refine bp (h.inv) fun v r hS48 a b=> ?_; subst hS48
  exact .cons a (RepL.take n b)
theorem RepL.drop {K:W.Frag}{G:Hp}:∀ {ds:List D} {vs:List V} (n:Nat),RepL K G ds vs→RepL K G (ds.drop n) (vs.drop n)
 | _,_,0,h=>h
 | [],_,_+1,h=>by rw [h.inv0]; simpa using RepL.nil
 | _ :: _,_,n+1,h=>by
  refine bp (h.inv) fun v r hS49 a b=> ?_; subst hS49
  exact RepL.drop n b
theorem RepL.reverse {K:W.Frag}{G:Hp}:∀ {ds:List D} {vs:List V},RepL K G ds vs→RepL K G ds.reverse vs.reverse
 | [],_,h=>by rw [h.inv0]; simpa using RepL.nil
 | _ :: _,_,h=>by
  refine bp (h.inv) fun v r hS50 a b=> ?_; subst hS50
  rw [List.reverse_cons,List.reverse_cons]
  exact (RepL.reverse b).append (.cons a .nil)
theorem RepL.ints {K:W.Frag}{G:Hp}:∀ {ns:List Int} {vs:List V},RepL K G (ns.map D.int) vs→vs=ns.map V.int
 | [],_,h=>h.inv0
 | n :: ns,_,h=>by
  refine bp (RepL.inv (by simpa using h)) fun v r hS51 a b=> ?_; subst hS51
  rw [RepL.ints b]
  have a':v= .int n:=by unfold Rep at a; exact a
  rw [a']; rfl
theorem RepL.of_ints {K:W.Frag}{G:Hp}:∀ (ns:List Int),RepL K G (ns.map D.int) (ns.map V.int)
 | []=> .nil
 | n :: ns=> .cons (by unfold Rep; rfl) (RepL.of_ints ns)
noncomputable def qb (o:HO):Prop:=∃ ks:List bu,o= .tup (ks.map kV)
structure Ext (G H G' H':Hp):Prop where
 hh:Same H H'
 gg:Same G G'
 gh:Same G' H'
 nw:∀ b o,G' b=some o→G b=some o∨H b=none∨qb o
theorem Ext.refl {G H:Hp}(s:Same G H):Ext G H G H:=⟨.refl _,.refl _,s,fun _ _ h=> .inl h⟩
theorem Ext.trans {G H G1 H1 G2 H2:Hp}(a:Ext G H G1 H1)(b:Ext G1 H1 G2 H2):Ext G H G2 H2:=
 ⟨a.hh.trans b.hh,a.gg.trans b.gg,b.gh,fun c o h=>(b.nw c o h).elim (fun z=>a.nw c o z) fun z=> .inr (z.imp a.hh.free id)⟩
theorem Ext.new {G H:Hp}(s:Same G H){p:Addr}(hp:H p=none)(o:HO):Ext G H (bg G p o) (bg H p o):=
 ⟨fun b u e=>by rw [ai (aw e hp)]; exact e,fun b u e=>by rw [ai (aw (s b u e) hp)]; exact e,
  fun b u e=>by
   by_cases hb:b=p
   ·subst hb; rw [ao] at e ⊢; exact e
   ·rw [ai hb] at e ⊢; exact s b u e,
  fun b u e=>by
   by_cases hb:b=p
   ·subst hb; exact .inr (.inl hp)
   ·rw [ai hb] at e; exact .inl e⟩
noncomputable def OkR {α:Type}(E:XK)(H:Hp):Res α→Prop
 | .ok _=>True
 | .exc c=>∀ H',Same H H'→E (.ref c) none H'
 | .bad=>False
theorem OkR.fst {α β:Type}{E:XK}{H:Hp}{x:Res α}{f:α→Res β}(h:OkR E H (x.bind f)):OkR E H x:=by
 cases x with
 | ok a=>trivial
 | exc c=>exact h
 | bad=>exact h
theorem OkR.snd {α β:Type}{E:XK}{H H1:Hp}{x:Res α}{f:α→Res β}{a:α}(h:OkR E H (x.bind f))(e:x= .ok a)(s:Same H H1):OkR E H1 (f a):=by
 subst e
 have h':OkR E H (f a):=h
 cases q:f a with
 | ok b=>trivial
 | exc c=>rw [q] at h'; exact fun H' s'=>h' H' (s.trans s')
 | bad=>rw [q] at h'; exact h'
theorem OkR.le {α:Type}{E:XK}{H H1:Hp}{x:Res α}(h:OkR E H x)(s:Same H H1):OkR E H1 x:=by
 cases x with
 | ok b=>trivial
 | exc c=>exact fun H' s'=>h H' (s.trans s')
 | bad=>exact h
theorem aq {α β:Type}{x:Res α}{f:α→Res β}{a:α}{b:β}(e:x= .ok a)(h:f a= .ok b):x.bind f= .ok b:=by subst e; exact h
noncomputable abbrev DS:=List (Option D)
noncomputable def Ro (K:W.Frag)(G:Hp)(σ:St)(ρ:DS):Prop:=∀ (i:Nat) (d:D),ρ[i]?=some (some d)→∃ v,σ[i]?=some (some v)∧Rep K G d v
theorem Ro.mono {K:W.Frag}{G G':Hp}{σ:St}{ρ:DS}(h:Ro K G σ ρ)(s:Same G G'):Ro K G' σ ρ:=fun i d e=>let ⟨v,a,b⟩:=h i d e; ⟨v,a,b.mono s⟩
theorem Ro.nil {K:W.Frag}{G:Hp}{σ:St}:Ro K G σ []:=fun i d e=>by simp at e
theorem Ro.cons {K:W.Frag}{G:Hp}{σ:St}{ρ:DS}{v:V}{d:D}(a:Rep K G d v)(h:Ro K G σ ρ):Ro K G (some v :: σ) (some d :: ρ):=fun i e q=>by
 cases i with
 | zero=>simp at q; subst q; exact ⟨v,rfl,a⟩
 | succ i=>simpa using h i e (by simpa using q)
theorem Ro.skip {K:W.Frag}{G:Hp}{σ:St}{ρ:DS}{o:Option V}(h:Ro K G σ ρ):Ro K G (o :: σ) (none :: ρ):=fun i e q=>by
 cases i with
 | zero=>simp at q
 | succ i=>simpa using h i e (by simpa using q)
inductive DQ (X:Cx)(pins:List (Addr×Obj))(σ:St)(G H:Hp)(o:Res D)(u:Value)(s':Shared):Prop
 | mk (d:D) (e:o= .ok d) (v:V) (G' H':Hp) (i:Inv X pins σ H' s') (r:RelV v u) (x:Ext G H G' H') (p:Rep X.K G' d v)
inductive DAQ (X:Cx)(pins:List (Addr×Obj))(σ:St)(G H:Hp)(o:Res (List D))(us:List Value)(s':Shared):Prop
 | mk (ds:List D) (e:o= .ok ds) (vs:List V) (G' H':Hp) (i:Inv X pins σ H' s') (r:Vals vs us) (x:Ext G H G' H') (p:RepL X.K G' ds vs)
inductive DTQ (X:Cx)(pins:List (Addr×Obj))(σ:St)(G H:Hp)(o:Res Bool)(b:Bool)(s':Shared):Prop
 | mk (e:o= .ok b) (G' H':Hp) (i:Inv X pins σ H' s') (x:Ext G H G' H')
noncomputable def PD (X:Cx)(E:XK)(e:Expr)(f:DS→Res D):Prop:=
 ∀ (pins:List (Addr×Obj)) (s:Shared) (σ:St) (G H:Hp) (ρ:DS),Inv X pins σ H s→Same G H→Ro X.K G σ ρ→OkR E H (f ρ)→
  wpAny (model X.prog X.w) X.A (eval e X.env) (DQ X pins σ G H (f ρ)) X.xe s
noncomputable def lI (X:Cx)(E:XK)(es:List Expr)(f:DS→Res (List D)):Prop:=
 ∀ (pos:Pos) (pins:List (Addr×Obj)) (s:Shared) (σ:St) (G H:Hp) (ρ:DS),Inv X pins σ H s→Same G H→Ro X.K G σ ρ→OkR E H (f ρ)→
  wpAny (model X.prog X.w) X.A (spliced (backTo pos (starEach es X.env))) (DAQ X pins σ G H (f ρ)) X.xe s
noncomputable def va (X:Cx)(E:XK)(e:Expr)(f:DS→Res Bool):Prop:=
 ∀ (pins:List (Addr×Obj)) (s:Shared) (σ:St) (G H:Hp) (ρ:DS),Inv X pins σ H s→Same G H→Ro X.K G σ ρ→OkR E H (f ρ)→
  wpAny (model X.prog X.w) X.A (isTrue e X.env (eval e X.env)) (DTQ X pins σ G H (f ρ)) X.xe s
noncomputable def PDW (X:Cx)(E:XK)(e:Expr)(f:DS→Res Bool):Prop:=
 ∀ (whole:Sem Value) (pins:List (Addr×Obj)) (s:Shared) (σ:St) (G H:Hp) (ρ:DS),Inv X pins σ H s→Same G H→Ro X.K G σ ρ→OkR E H (f ρ)→
  wpAny (model X.prog X.w) X.A (isTrue e X.env whole) (DTQ X pins σ G H (f ρ)) X.xe s
theorem PDW.pt {X:Cx}{E:XK}{e:Expr}{f:DS→Res Bool}(h:PDW X E e f):va X E e f:=h _
inductive tD (K:W.Frag)(E:XK)(f:DS→Res D)(σ:St)(H:Hp)(Q:VK):Prop
 | mk (G:Hp) (ρ:DS) (s:Same G H) (r:Ro K G σ ρ) (o:OkR E H (f ρ)) (k:∀ d,f ρ= .ok d→∀ v G' H',Ext G H G' H'→Rep K G' d v→Q v H')
theorem dR {X:Cx}{E:XK}{e:Expr}{f:DS→Res D}(h:PD X E e f):PE X e (tD X.K E f):=by
 intro pins s σ H Q I hZ2
 obtain ⟨G,ρ,hs,hr,ho,k⟩:=hZ2
 refine aW (h pins s σ G H ρ I hs hr ho) fun u s' hZ81=>(by obtain ⟨d,e,v,G',H',I',rv,x,rp⟩:=hZ81; exact ⟨v,H',I',rv,k d e v G' H' x rp⟩)
inductive tDT (K:W.Frag)(E:XK)(f:DS→Res Bool)(σ:St)(H:Hp)(Q:Bool→Hp→Prop):Prop
 | mk (G:Hp) (ρ:DS) (s:Same G H) (r:Ro K G σ ρ) (o:OkR E H (f ρ)) (k:∀ b,f ρ= .ok b→∀ G' H',Ext G H G' H'→Q b H')
theorem GU {X:Cx}{E:XK}{e:Expr}{f:DS→Res Bool}(h:va X E e f):PT X e (tDT X.K E f):=by
 intro pins s σ H Q I hZ3
 obtain ⟨G,ρ,hs,hr,ho,k⟩:=hZ3
 refine aW (h pins s σ G H ρ I hs hr ho) fun b s' hZ82=>(by obtain ⟨e,G',H',I',x⟩:=hZ82; exact ⟨H',I',k b e G' H' x⟩)
inductive tDA (K:W.Frag)(E:XK)(f:DS→Res (List D))(σ:St)(H:Hp)(Q:List V→Hp→Prop):Prop
 | mk (G:Hp) (ρ:DS) (s:Same G H) (r:Ro K G σ ρ) (o:OkR E H (f ρ)) (k:∀ ds,f ρ= .ok ds→∀ vs G' H',Ext G H G' H'→RepL K G' ds vs→Q vs H')
theorem iO {X:Cx}{E:XK}{es:List Expr}{f:DS→Res (List D)}(h:lI X E es f):PA X es (tDA X.K E f):=by
 intro pos pins s σ H Q I hZ4
 obtain ⟨G,ρ,hs,hr,ho,k⟩:=hZ4
 refine aW (h pos pins s σ G H ρ I hs hr ho) fun us s' hZ83=>(by obtain ⟨ds,e,vs,G',H',I',rv,x,rp⟩:=hZ83; exact ⟨vs,H',I',rv,k ds e vs G' H' x rp⟩)
section
variable{X:Cx}{E:XK}
theorem CW {i:Nat}{x:Str}{pos:Pos}(hN:X.N[i]?=some x)(hv:t9 X.env.scope x)(hd:(x == ("__debug__" :Str))=false:=by decide)(hcd:(x == ("__classdict__" :Str))=false:=by decide) :
  PD X E (.Name x pos) (fun ρ=>match ρ[i]? with | some (some d)=> .ok d | _=> .bad):=by
 intro pins s σ G H ρ I hs hr ho
 cases e:ρ[i]? with
 | none=>simp only [e] at ho; exact ho.elim
 | some o=>
  cases o with
  | none=>simp only [e] at ho; exact ho.elim
  | some d=>
   obtain ⟨v,hv',rp⟩:=hr i d e
   exact aW (eY hN hv hd hcd pins s σ H (fun v' H'=>H'=H∧v'=v) I (ik v hv' rfl rfl)) fun u s' hZ84=>by
    obtain ⟨v',H',I',r,e1,e2⟩:=hZ84
    subst e1 e2
    exact ⟨d,by simp only [e],v',G,H',I',r,.refl hs,rp⟩
theorem lT {e:Expr}{t:TE}{d:D}(h:PE X e t)(ht:∀ σ H,t σ H fun v H'=>H'=H∧∀ G,Rep X.K G d v):PD X E e (fun _=> .ok d):=by
 intro pins s σ G H ρ I hs hr ho
 refine aW (h pins s σ H _ I (ht σ H)) fun u s' hZ85=> ?_
 obtain ⟨v,H',I',r,e1,e2⟩:=hZ85
 subst e1
 exact ⟨d,rfl,v,G,H',I',r,.refl hs,e2 G⟩
theorem af {i j pos}:PD X E (.Constant (.int i) j pos) (fun _=> .ok (.int i)):=lT CZ fun _ _=>⟨rfl,fun _=>by unfold Rep; rfl⟩
theorem Bo {b j pos}:PD X E (.Constant (.bool b) j pos) (fun _=> .ok (.bl b)):=lT FB fun _ _=>⟨rfl,fun _=>by unfold Rep; rfl⟩
theorem ti {x j pos}:PD X E (.Constant (.str x) j pos) (fun _=> .ok (.str x)):=lT Da fun _ _=>⟨rfl,fun _=>by unfold Rep; rfl⟩
theorem xO {x:Str}{i:Int}{u:Value}{pos:Pos}(hg:Gl X x)(hm:X.mg x=some u)(r:∃ t,u= .int i t)(hd:(x == ("__debug__" :Str))=false:=by decide):PD X E (.Name x pos) (fun _=> .ok (.int i)):=
 lT (Ab (v:= .int i) hg hm r hd) fun _ _=>⟨rfl,fun _=>by unfold Rep; rfl⟩
theorem ae:lI X E [] (fun _=> .ok []):=fun _ _ _ _ G H _ I hs _ _=>Calls.spliced_nil ⟨[],rfl,[],G,H,I,.nil,.refl hs,.nil⟩
theorem aa {e:Expr}{es:List Expr}{f:DS→Res D}{g:DS→Res (List D)}(ha:PD X E e f)(hr:lI X E es g)(hs:starEach (e :: es) X.env=(false,eval e X.env) :: starEach es X.env:=by rfl) :
  lI X E (e :: es) (fun ρ=>(f ρ).bind fun d=>(g ρ).bind fun ds=> .ok (d :: ds)):=by
 intro pos pins s σ G H ρ I hsm hro ho
 have key:PA X (e :: es) (Bs (tD X.K E f) (tDA X.K E g)):=df (dR ha) (iO hr) hs
 refine aW (key pos pins s σ H (fun vs H'=>∃ ds,((f ρ).bind fun d=>(g ρ).bind fun ds=> .ok (d :: ds))= .ok ds∧∃ G',Ext G H G' H'∧RepL X.K G' ds vs) I ?_) fun us s' hZ86=>(by obtain ⟨vs,H',I',r,ds,e1,G',x,rp⟩:=hZ86; exact ⟨ds,e1,vs,G',H',I',r,x,rp⟩)
 refine ⟨G,ρ,hsm,hro,ho.fst,fun d ed v G1 H1 x1 r1=>⟨G1,ρ,x1.gh,hro.mono x1.gg,(ho.snd ed x1.hh).fst,fun ds eds vs G2 H2 x2 r2=>(GN (d :: ds) (aq ed (aq eds rfl)) G2 (x1.trans x2) (.cons (r1.mono x2.gg) r2))⟩⟩
noncomputable def DOp (X:Cx)(E:XK)(f:Value→Value→Sem Value)(g:D→D→Res D):Prop:=
 ∀ (pins:List (Addr×Obj)) (s:Shared) (σ:St) (G H:Hp) (x y:V) (dx dy:D) (v u:Value),Inv X pins σ H s→Same G H→Rep X.K G dx x→Rep X.K G dy y→RelV x v→RelV y u→OkR E H (g dx dy)→
  wpAny (model X.prog X.w) X.A (f v u) (DQ X pins σ G H (g dx dy)) X.xe s
theorem DOp.of {f:Value→Value→Sem Value}{r:R2}{g:D→D→Res D}(ho:qz X f r)
  (h:∀ (G H:Hp) (x y:V) (dx dy:D),Same G H→Rep X.K G dx x→Rep X.K G dy y→OkR E H (g dx dy)→r x y H (fun v' H'=>∃ d G',g dx dy= .ok d∧Ext G H G' H'∧Rep X.K G' d v')):DOp X E f g:=by
 intro pins s σ G H x y dx dy v u I hs rx ry rv ru ok
 refine aW (ho pins s σ H x y v u _ I rv ru (h G H x y dx dy hs rx ry ok)) fun w s' hZ87=>(by obtain ⟨v',H',I',r',d,G',e,x',rp⟩:=hZ87; exact ⟨d,e,v',G',H',I',r',x',rp⟩)
noncomputable def ac (f:DS→Res D)(g:DS→Res D)(o:D→D→Res D):DS→Res D:=fun ρ=>(f ρ).bind fun a=>(g ρ).bind fun b=>o a b
theorem tj {a b:Expr}{fa fb:DS→Res D}(ha:PD X E a fa)(hb:PD X E b fb){op:Value→Value→Sem Value}{o:D→D→Res D}(hop:DOp X E op o){pins:List (Addr×Obj)}{s:Shared}{σ:St}{G H:Hp}{ρ:DS}(I:Inv X pins σ H s)(hs:Same G H)(hro:Ro X.K G σ ρ)(ho:OkR E H (ac fa fb o ρ)) :
  wpAny (model X.prog X.w) X.A (eval a X.env) (fun v s₁=>wpAny (model X.prog X.w) X.A (eval b X.env) (fun u s₂=>wpAny (model X.prog X.w) X.A (op v u) (DQ X pins σ G H (ac fa fb o ρ)) X.xe s₂) X.xe s₁) X.xe s:=by
 refine aW (ha pins s σ G H ρ I hs hro ho.fst) fun v s1 hZ88=> ?_
 obtain ⟨d1,e1,v1,G1,H1,I1,r1,x1,p1⟩:=hZ88
 refine aW (hb pins s1 σ G1 H1 ρ I1 x1.gh (hro.mono x1.gg) (ho.snd e1 x1.hh).fst) fun u s2 hZ89=> ?_
 obtain ⟨d2,e2,v2,G2,H2,I2,r2,x2,p2⟩:=hZ89
 refine aW (hop pins s2 σ G2 H2 v1 v2 d1 d2 v u I2 x2.gh (p1.mono x2.gg) p2 r1 r2 ((ho.snd e1 x1.hh).snd e2 x2.hh)) fun w s3 hZ90=> ?_
 obtain ⟨d,e,v3,G3,H3,I3,r3,x3,p3⟩:=hZ90
 exact ⟨d,aq e1 (aq e2 e),v3,G3,H3,I3,r3,(x1.trans x2).trans x3,p3⟩
theorem aj {op:Operator}{a b:Expr}{fa fb:DS→Res D}{o:D→D→Res D}{pos:Pos}(hop:DOp X E (binaryOp op) o)(ha:PD X E a fa)(hb:PD X E b fb):PD X E (.BinOp a op b pos) (ac fa fb o):=
 fun pins s σ G H ρ I hs hro ho=>wpAny_BinOp (tj ha hb hop I hs hro ho)
theorem CU {op:CmpOp}{a b:Expr}{fa fb:DS→Res D}{o:D→D→Res D}{pos:Pos}(hop:DOp X E (compareOp op) o)(ha:PD X E a fa)(hb:PD X E b fb)(hm:behindInMarks op b=false):PD X E (.Compare a [op] [b] pos) (ac fa fb o):=
 fun pins s σ G H ρ I hs hro ho=>wpAny_Compare1 (tj ha hb hop I hs hro ho) hm
noncomputable def f7 (f:DS→Res D):DS→Res Bool:=fun ρ=>(f ρ).bind fun d=>match d with | .bl b=> .ok b | _=> .bad
theorem a9 {op:CmpOp}{a b:Expr}{fa fb:DS→Res D}{o:D→D→Res D}{pos:Pos}(hop:DOp X E (compareOp op) o)(ha:PD X E a fa)(hb:PD X E b fb)(hm:behindInMarks op b=false):va X E (.Compare a [op] [b] pos) (f7 (ac fa fb o)):=by
 intro pins s σ G H ρ I hs hro ho
 refine wpAny_isTrue_Compare1 (aW (tj ha hb hop I hs hro ho.fst) fun v s1 h1=>aW h1 fun u s2 h2=>aW h2 fun c s3 hZ91=> ?_) hm
 obtain ⟨d,e,v3,G3,H3,I3,r3,x3,p3⟩:=hZ91
 have k:=ho.snd e (Same.refl H)
 cases d with
 | bl b=>
  unfold Rep at p3; subst p3; cases r3
  exact wpAny_truthy_bool ⟨aq e rfl,G3,H3,I3,x3⟩
 | _=>exact k.elim
end
theorem rep_int {K:W.Frag}{G:Hp}{i:Int}{v:V}:Rep K G (.int i) v↔v= .int i:=by unfold Rep; exact Iff.rfl
theorem rep_bl {K:W.Frag}{G:Hp}{i:Bool}{v:V}:Rep K G (.bl i) v↔v= .bl i:=by unfold Rep; exact Iff.rfl
theorem rep_non {K:W.Frag}{G:Hp}{v:V}:Rep K G .non v↔v= .non:=by unfold Rep; exact Iff.rfl
theorem rep_str {K:W.Frag}{G:Hp}{i:Str}{v:V}:Rep K G (.str i) v↔v= .str i:=by unfold Rep; exact Iff.rfl
theorem rep_lst {K:W.Frag}{G:Hp}{ds:List D}{v:V}:Rep K G (.lst ds) v↔∃ a xs,v= .ref a∧LsS K G a xs∧RepL K G ds xs:=by unfold Rep; exact Iff.rfl
theorem rep_tup {K:W.Frag}{G:Hp}{ds:List D}{v:V}:Rep K G (.tup ds) v↔∃ a xs,v= .ref a∧TpS K G a xs∧RepL K G ds xs:=by unfold Rep; exact Iff.rfl
theorem uV {K:W.Frag}{G:Hp}{ns:List Int}{v:V}:Rep K G (.scr ns) v↔∃ a,v= .ref a∧gs K G a (ns.map V.int):=by unfold Rep; exact Iff.rfl
theorem rep_fdc {K:W.Frag}{G:Hp}{ks:List (List bu)}{ds:List D}{v:V}:Rep K G (.fdc ks ds) v↔∃ a o kvs,v= .ref a∧G a=some (.frz o (.dT kvs))∧kvs.map (·.1)=ks∧RepL K G ds (kvs.map (·.2)):=by unfold Rep; exact Iff.rfl
theorem rep_dct {K:W.Frag}{G:Hp}{ks:List (List bu)}{ds:List D}{v:V}:Rep K G (.dct ks ds) v↔∃ a kvs,v= .ref a∧Rd G a (.dT kvs)∧kvs.map (·.1)=ks∧RepL K G ds (kvs.map (·.2)):=by unfold Rep; exact Iff.rfl
theorem rep_ins {K:W.Frag}{G:Hp}{C:Addr}{ns:List Str}{ds:List D}{v:V}:Rep K G (.ins C ns ds) v↔∃ a dx fs,v= .ref a∧G a=some (.ins C dx fs)∧fs.map (·.1)=ns∧RepL K G ds (fs.map (·.2)):=by unfold Rep; exact Iff.rfl
noncomputable def iq (c:Int→Int→Bool)(g:Int→Int→D):D→D→Res D
 | .int i,.int j=>if c i j=true then .ok (g i j) else .bad
 | _,_=> .bad
section
variable{X:Cx}{E:XK}
theorem pE {f:Value→Value→Sem Value}{C:Int→Int→Prop}{g:Int→Int→V}{c:Int→Int→Bool}{gD:Int→Int→D}(ho:qz X f (rI C g))(hc:∀ i j,c i j=true→C i j)(hg:∀ i j G,Rep X.K G (gD i j) (g i j)):DOp X E f (iq c gD):=
 DOp.of ho fun G H x y dx dy hs rx ry ok=>by
  unfold iq at ok ⊢
  split at ok
  ·rename_i i j
   rw [rep_int] at rx ry
   subst rx ry
   by_cases h:c i j=true
   ·rw [if_pos h]
    exact (EY i j rfl rfl (hc i j h) _ G rfl (.refl hs) (hg i j G))
   ·rw [if_neg h] at ok; exact ok.elim
  ·exact ok.elim
theorem iE {f:Value→Value→Sem Value}{g:Int→Int→V}{gD:Int→Int→D}(ho:qz X f (Br g))(hg:∀ i j G,Rep X.K G (gD i j) (g i j)):DOp X E f (iq (fun _ _=>true) gD):=
 DOp.of ho fun G H x y dx dy hs rx ry ok=>by
  unfold iq at ok ⊢
  split at ok
  ·rename_i i j
   rw [rep_int] at rx ry
   subst rx ry
   exact (EZ i j rfl rfl _ G rfl (.refl hs) (hg i j G))
  ·exact ok.elim
instance (i j:Int):Decidable (CMul i j):=by unfold CMul; infer_instance
instance (i j:Int):Decidable (wy i j):=by unfold wy; infer_instance
noncomputable def wB:D→D→Res D:=iq (fun _ _=>true) fun i j=> .int (i+j)
noncomputable def jI:D→D→Res D:=iq (fun _ _=>true) fun i j=> .int (i - j)
noncomputable def vV:D→D→Res D:=iq (fun i j=>decide (CMul i j)) fun i j=> .int (i * j)
noncomputable def jX:D→D→Res D:=iq (fun i j=>decide (wy i j)) fun i j=> .int (i / j)
noncomputable def kY:D→D→Res D:=iq (fun _ j=>decide (0 < j)) fun i j=> .int (i % j)
noncomputable def DJ:D→D→Res D:=iq (fun _ _=>true) fun i j=> .bl (decide (i < j))
noncomputable def sj:D→D→Res D:=iq (fun _ _=>true) fun i j=> .bl (decide (i≤j))
noncomputable def DI:D→D→Res D:=iq (fun _ _=>true) fun i j=> .bl (decide (j < i))
noncomputable def HJ:D→D→Res D:=iq (fun _ _=>true) fun i j=> .bl (decide (j≤i))
theorem do_add:DOp X E (binaryOp .Add) wB:=iE CK fun _ _ _=>rep_int.mpr rfl
theorem jz:DOp X E (binaryOp .Sub) jI:=iE CS fun _ _ _=>rep_int.mpr rfl
theorem do_mul:DOp X E (binaryOp .Mult) vV:=pE CP (fun _ _ h=>of_decide_eq_true h) fun _ _ _=>rep_int.mpr rfl
theorem pD:DOp X E (binaryOp .FloorDiv) jX:=pE zX (fun _ _ h=>of_decide_eq_true h) fun _ _ _=>rep_int.mpr rfl
theorem jw:DOp X E (binaryOp .Mod) kY:=pE CO (fun _ _ h=>of_decide_eq_true h) fun _ _ _=>rep_int.mpr rfl
theorem ug:DOp X E (compareOp .Lt) DJ:=iE Fy fun _ _ _=>rep_bl.mpr rfl
theorem ii:DOp X E (compareOp .LtE) sj:=iE Fx fun _ _ _=>rep_bl.mpr rfl
theorem Ba:DOp X E (compareOp .Gt) DI:=iE Fw fun _ _ _=>rep_bl.mpr rfl
noncomputable def CI:D→Res D
 | .int i=> .ok (.int (-i))
 | _=> .bad
theorem m7 {a:Expr}{fa:DS→Res D}{pos:Pos}(ha:PD X E a fa):PD X E (.UnaryOp .USub a pos) (fun ρ=>(fa ρ).bind CI):=by
 intro pins s σ G H ρ I hs hro ho
 refine UnaryOp_ (aW (ha pins s σ G H ρ I hs hro ho.fst) fun v s1 hZ92=> ?_)
 obtain ⟨d1,e1,v1,G1,H1,I1,r1,x1,p1⟩:=hZ92
 have k:=ho.snd e1 x1.hh
 cases d1 with
 | int i=>
  rw [rep_int] at p1; subst p1
  exact aW (Dw pins s1 σ H1 (.int i) v (fun v' H'=>H'=H1∧v'= .int (-i)) I1 r1 (ik i rfl rfl rfl)) fun w s2 hZ93=>by
   obtain ⟨v2,H2,I2,r2,h1,h2⟩:=hZ93
   subst h1 h2
   exact ⟨.int (-i),aq e1 rfl,_,G1,_,I2,r2,x1,rep_int.mpr rfl⟩
 | _=>exact k.elim
noncomputable def Gb (d:D):Bool:=match d with | .non=>true | _=>false
noncomputable def GP (d e:D):Res D:=match e with | .non=> .ok (.bl (Gb d)) | _=> .bad
noncomputable def Ft (d e:D):Res D:=match e with | .non=> .ok (.bl (!Gb d)) | _=> .bad
theorem xT {a:Expr}{pos:Pos}{f:DS→Res Bool}(ha:va X E a f):PDW X E (.BoolOp .And [a] pos) f:=by
 intro wh pins s σ G H ρ I hs hro ho
 refine isTrue_and (aW (ha pins s σ G H ρ I hs hro ho) fun c s1 e=> ?_)
 cases c with
 | true=>exact isTrue_and_nil e
 | false=>exact e
noncomputable def yT (f g:DS→Res Bool):DS→Res Bool:=fun ρ=>(f ρ).bind fun b=>if b=true then g ρ else .ok false
noncomputable def HN (f g:DS→Res Bool):DS→Res Bool:=fun ρ=>(f ρ).bind fun b=>if b=true then .ok true else g ρ
theorem z_ {a b:Expr}{rest:List Expr}{pos:Pos}{f g:DS→Res Bool}(ha:va X E a f)(hb:PDW X E (.BoolOp .And (b :: rest) pos) g):PDW X E (.BoolOp .And (a :: b :: rest) pos) (yT f g):=by
 intro wh pins s σ G H ρ I hs hro ho
 refine isTrue_and (aW (ha pins s σ G H ρ I hs hro ho.fst) fun c s1 hZ94=> ?_)
 obtain ⟨e,G1,H1,I1,x1⟩:=hZ94
 cases c with
 | true=>exact aW (hb wh pins s1 σ G1 H1 ρ I1 x1.gh (hro.mono x1.gg) (ho.snd e x1.hh)) fun c2 s2 hZ95=>(by obtain ⟨e2,G2,H2,I2,x2⟩:=hZ95; exact ⟨aq e (by rw [if_pos rfl]; exact e2),G2,H2,I2,x1.trans x2⟩)
 | false=>exact ⟨aq e rfl,G1,H1,I1,x1⟩
noncomputable def m5 (f:DS→Res Bool):DS→Res Bool:=fun ρ=>(f ρ).bind fun b=> .ok (!b)
theorem fI {a:Expr}{pos:Pos}{f:DS→Res Bool}(ha:va X E a f):va X E (.UnaryOp .Not a pos) (m5 f):=by
 intro pins s σ G H ρ I hs hro ho
 exact isTrue_not (aW (ha pins s σ G H ρ I hs hro ho.fst) fun c s1 hZ96=>(by obtain ⟨e,G1,H1,I1,x1⟩:=hZ96; exact ⟨aq e rfl,G1,H1,I1,x1⟩))
noncomputable def Gr (f g:DS→Res D):DS→Res D:=fun ρ=>(f ρ).bind fun d=>match d with | .bl true=>g ρ | .bl false=> .ok (.bl false) | _=> .bad
noncomputable def GS (f:DS→Res D):DS→Res D:=fun ρ=>(f ρ).bind fun d=>match d with | .bl b=> .ok (.bl (!b)) | _=> .bad
noncomputable def gL (fa fb fc:DS→Res D)(o o':D→D→Res D):DS→Res Bool:=fun ρ=>(fa ρ).bind fun a=>(fb ρ).bind fun b=>(o a b).bind fun r=>match r with | .bl true=>(fc ρ).bind fun c=>(o' b c).bind fun q=>(match q with | .bl k=> .ok k | _=> .bad) | .bl false=> .ok false | _=> .bad
noncomputable def aL (n:Nat):Bool:=decide (n≤100000)
theorem bF {n:Nat}(h:aL n=true):n≤sizeLine:=Nat.le_trans (of_decide_eq_true h) (by decide)
noncomputable def fu (f:DS→Res (List D)):DS→Res D:=fun ρ=>(f ρ).bind fun ds=>if aL ds.length=true then .ok (.lst ds) else .bad
noncomputable def bX (f:DS→Res (List D)):DS→Res D:=fun ρ=>(f ρ).bind fun ds=>if aL ds.length=true then .ok (.tup ds) else .bad
theorem qg {es:List Expr}{pos:Pos}{f:DS→Res (List D)}(h:lI X E es f):PD X E (.List es pos) (fu f):=by
 intro pins s σ G H ρ I hs hro ho
 refine aW (tm (iO h) pins s σ H (fun v H'=>∃ d G',fu f ρ= .ok d∧Ext G H G' H'∧Rep X.K G' d v) I ?_) fun u s' hZ97=>(by obtain ⟨v,H',I',r,d,G',e,x,rp⟩:=hZ97; exact ⟨d,e,v,G',H',I',r,x,rp⟩)
 refine ⟨G,ρ,hs,hro,ho.fst,fun ds e vs G1 H1 x1 r1=> ?_⟩
 have k:=ho.snd e x1.hh
 by_cases hl:aL ds.length=true
 ·refine ⟨by rw [← r1.length]; exact bF hl,fun p hp=>(du (.lst ds) (bg G1 p (.lst vs)) (aq e (if_pos hl)) (x1.trans (.new x1.gh hp _)) (rep_lst.mpr (du p vs rfl (.of ao) (r1.mono (Ext.new x1.gh hp _).gg))))⟩
 ·rw [if_neg hl] at k; exact k.elim
theorem bQ {es:List Expr}{x1}{pos:Pos}{f:DS→Res (List D)}(h:lI X E es f):PD X E (.Tuple es x1 pos) (bX f):=by
 intro pins s σ G H ρ I hs hro ho
 refine aW (Db (iO h) pins s σ H (fun v H'=>∃ d G',bX f ρ= .ok d∧Ext G H G' H'∧Rep X.K G' d v) I ?_) fun u s' hZ98=>(by obtain ⟨v,H',I',r,d,G',e,x,rp⟩:=hZ98; exact ⟨d,e,v,G',H',I',r,x,rp⟩)
 refine ⟨G,ρ,hs,hro,ho.fst,fun ds e vs G1 H1 x1 r1=> ?_⟩
 have k:=ho.snd e x1.hh
 by_cases hl:aL ds.length=true
 ·refine ⟨by rw [← r1.length]; exact bF hl,fun p hp=>(du (.tup ds) (bg G1 p (.tup vs)) (aq e (if_pos hl)) (x1.trans (.new x1.gh hp _)) (rep_tup.mpr (du p vs rfl (.of ao) (r1.mono (Ext.new x1.gh hp _).gg))))⟩
 ·rw [if_neg hl] at k; exact k.elim
end
section
variable{X:Cx}{E:XK}
theorem CV {e:Expr}{r:R2}{fa fb:DS→Res D}{o:D→D→Res D}(he:PE X e (HG r (tD X.K E fa) (tD X.K E fb)))
  (h:∀ (G H:Hp) (x y:V) (dx dy:D) (Q:VK),Same G H→Rep X.K G dx x→Rep X.K G dy y→OkR E H (o dx dy)→(∀ d v' G' H',o dx dy= .ok d→Ext G H G' H'→Rep X.K G' d v'→Q v' H')→r x y H Q):PD X E e (ac fa fb o):=by
 intro pins s σ G H ρ I hs hro ho
 refine aW (he pins s σ H (fun v H'=>∃ d G',ac fa fb o ρ= .ok d∧Ext G H G' H'∧Rep X.K G' d v) I ?_) fun u s' hZ99=>(by obtain ⟨v,H',I',r',d,G',e,x,rp⟩:=hZ99; exact ⟨d,e,v,G',H',I',r',x,rp⟩)
 refine ⟨G,ρ,hs,hro,ho.fst,fun d1 e1 v1 G1 H1 x1 p1=>⟨G1,ρ,x1.gh,hro.mono x1.gg,(ho.snd e1 x1.hh).fst,fun d2 e2 v2 G2 H2 x2 p2=> ?_⟩⟩
 exact h G2 H2 v1 v2 d1 d2 _ x2.gh (p1.mono x2.gg) p2 ((ho.snd e1 x1.hh).snd e2 x2.hh) fun d v' G' H' ed xx rp=>(du d G' (aq e1 (aq e2 ed)) ((x1.trans x2).trans xx) rp)
theorem RepL.atI {K:W.Frag}{G:Hp}{ds:List D}{vs:List V}{i:Int}{d:D}(h:RepL K G ds vs)(e:atI ds i=some d):∃ v,L2.atI vs i=some v∧Rep K G d v:=by
 unfold L2.atI at e ⊢
 rw [← h.length]
 cases q:q_ ds.length i with
 | none=>rw [q] at e; cases e
 | some j=>
  rw [q] at e
  exact h.get (by simpa using e)
noncomputable def aM:D→D→Res D
 | .lst l,.int i=>match L2.atI l i with | some d=> .ok d | none=> .bad
 | .tup l,.int i=>match L2.atI l i with | some d=> .ok d | none=> .bad
 | .scr ns,.int i=>match L2.atI ns i with | some n=> .ok (.int n) | none=> .bad
 | .str z,.int i=>match L2.atI z.cps.toList i with | some c=>if aL z.length=true then .ok (.str ⟨#[c]⟩) else .bad | none=> .bad
 | _,_=> .bad
theorem yU {α β:Type}{f:α→β}{xs:List α}{i:Int}{a:α}(h:L2.atI xs i=some a):L2.atI (xs.map f) i=some (f a):=by
 unfold L2.atI at h ⊢
 rw [List.length_map]
 cases q:q_ xs.length i with
 | none=>rw [q] at h; cases h
 | some j=>
  rw [q] at h
  show (xs.map f)[j]?=some (f a)
  have h':xs[j]?=some a:=h
  rw [List.getElem?_map,h']
  rfl
theorem aB {a b:Expr}{pos:Pos}{fa fb:DS→Res D}(ha:PD X E a fa)(hb:PD X E b fb)(hp:pi b:=by intro _ _; rfl):PD X E (.Subscript a b pos) (ac fa fb aM):=by
 refine CV (Bp Cs (dR ha) (dR hb) hp) fun G H x y dx dy Q hs rx ry ok k=> ?_
 unfold aM at ok k
 split at ok
 ·rename_i l i
  rw [rep_lst] at rx; rw [rep_int] at ry
  refine bp (rx) fun p xs hS52 sq rl=> ?_; subst hS52
  subst ry
  dsimp only at ok k
  cases q:L2.atI l i with
  | none=>rw [q] at ok; exact ok.elim
  | some d=>
   obtain ⟨v,hv,rv⟩:=rl.atI q
   rw [q] at k
   exact .inl (zG p xs i v rfl rfl (hs.seq sq.sq) hv (k d v G H rfl (.refl hs) rv))
 ·rename_i l i
  rw [rep_tup] at rx; rw [rep_int] at ry
  refine bp (rx) fun p xs hS53 sq rl=> ?_; subst hS53
  subst ry
  dsimp only at ok k
  cases q:L2.atI l i with
  | none=>rw [q] at ok; exact ok.elim
  | some d=>
   obtain ⟨v,hv,rv⟩:=rl.atI q
   rw [q] at k
   exact .inr (.inl (zG p xs i v rfl rfl (hs.seqT sq) hv (k d v G H rfl (.refl hs) rv)))
 ·rename_i ns i
  rw [uV] at rx; rw [rep_int] at ry
  obtain ⟨p,rfl,sq⟩:=rx
  subst ry
  dsimp only at ok k
  cases q:L2.atI ns i with
  | none=>rw [q] at ok; exact ok.elim
  | some n=>
   rw [q] at k
   exact .inl (zG p _ i (.int n) rfl rfl (hs.seq sq) (yU q) (k (.int n) (.int n) G H rfl (.refl hs) (rep_int.mpr rfl)))
 ·rename_i z i
  rw [rep_str] at rx; rw [rep_int] at ry
  subst rx ry
  dsimp only at ok k
  cases q:L2.atI z.cps.toList i with
  | none=>rw [q] at ok; exact ok.elim
  | some c=>
   rw [q] at k ok
   dsimp only at k ok
   by_cases hz:aL z.length=true
   ·rw [if_pos hz] at k
    exact .inr (.inr (oA z i c rfl rfl (bF hz) q (k _ _ G H rfl (.refl hs) (rep_str.mpr rfl))))
   ·rw [if_neg hz] at ok; exact ok.elim
 ·exact ok.elim
noncomputable def AX (K:W.Frag)(E:XK)(r:List V→Hp→VK→Prop)(g:List D→Res D):Prop:=
 ∀ (G H:Hp) (vs:List V) (ds:List D) (Q:VK),Same G H→RepL K G ds vs→OkR E H (g ds)→(∀ d v' G' H',g ds= .ok d→Ext G H G' H'→Rep K G' d v'→Q v' H')→r vs H Q
noncomputable def bx (fs:DS→Res (List D))(g:List D→Res D):DS→Res D:=fun ρ=>(fs ρ).bind g
theorem xR {e:Expr}{r:List V→Hp→VK→Prop}{fs:DS→Res (List D)}{g:List D→Res D}(he:PE X e (Ha r (tDA X.K E fs)))(h:AX X.K E r g):PD X E e (bx fs g):=by
 intro pins s σ G H ρ I hs hro ho
 refine aW (he pins s σ H (fun v H'=>∃ d G',bx fs g ρ= .ok d∧Ext G H G' H'∧Rep X.K G' d v) I ?_) fun u s' hZ100=>(by obtain ⟨v,H',I',r',d,G',e,x,rp⟩:=hZ100; exact ⟨d,e,v,G',H',I',r',x,rp⟩)
 refine ⟨G,ρ,hs,hro,ho.fst,fun ds e1 vs G1 H1 x1 p1=> ?_⟩
 exact h G1 H1 vs ds _ x1.gh p1 (ho.snd e1 x1.hh) fun d v' G' H' ed xx rp=>(du d G' (aq e1 ed) (x1.trans xx) rp)
theorem iP {x:Str}{p pos:Pos}{e:Expr}{es:List Expr}{id:String}{r:List V→Hp→VK→Prop}{fs:DS→Res (List D)}{g:List D→Res D}(hc:eD X (.builtin id) r)(h:AX X.K E r g)(hg:Gl X x)(hm:X.mg x=none)(hv:bootBuiltins x=some (.builtin id))(ha:lI X E (e :: es) fs)
  (hn:x≠ "__name__" :=by decide) (hdb:(x == ("__debug__" :Str))=false:=by decide)
  (he:starEach (e :: es) X.env=(false,eval e X.env) :: starEach es X.env:=by rfl) (hpl:(backTo pos (starEach es X.env)).any (·.1)=false:=by rfl):PD X E (.Call (.Name x p) (e :: es) [] pos) (bx fs g):=
 xR (rB hc hg hm hv (iO ha) hn hdb he hpl) h
theorem oP {x:Str}{p pos:Pos}{e:Expr}{es:List Expr}{T:String}{r:List V→Hp→VK→Prop}{fs:DS→Res (List D)}{g:List D→Res D}(hc:eD X (.type T) r)(h:AX X.K E r g)(hg:Gl X x)(hm:X.mg x=none)(hv:bootBuiltins x=some (.type T))(ha:lI X E (e :: es) fs)
  (hn:x≠ "__name__" :=by decide) (hdb:(x == ("__debug__" :Str))=false:=by decide)
  (he:starEach (e :: es) X.env=(false,eval e X.env) :: starEach es X.env:=by rfl) (hpl:(backTo pos (starEach es X.env)).any (·.1)=false:=by rfl):PD X E (.Call (.Name x p) (e :: es) [] pos) (bx fs g):=
 xR (eC hc hg hm hv (iO ha) hn hdb he hpl) h
noncomputable def bf:List D→Res D
 | [.lst l]=> .ok (.int l.length)
 | [.tup l]=> .ok (.int l.length)
 | [.scr ns]=> .ok (.int ns.length)
 | _=> .bad
theorem BH {K:W.Frag}:AX K E (fun xs H Q=>∃ p ys,xs=[.ref p]∧(gs K H p ys∨lL K H p ys)∧Q (.int ys.length) H) bf:=by
 intro G H vs ds Q hs rl ok k
 unfold bf at ok k
 split at ok
 ·obtain ⟨v,r,rfl,m,r0⟩:=rl.inv
  rw [r0.inv0]
  rw [rep_lst] at m
  obtain ⟨p,xs,rfl,sq,m⟩:=m
  exact ⟨p,xs,rfl,.inl (hs.seq sq.sq),k _ _ G H rfl (.refl hs) (by rw [m.length]; exact rep_int.mpr rfl)⟩
 ·obtain ⟨v,r,rfl,m,r0⟩:=rl.inv
  rw [r0.inv0]
  rw [rep_tup] at m
  obtain ⟨p,xs,rfl,sq,m⟩:=m
  exact ⟨p,xs,rfl,.inr (hs.seqT sq),k _ _ G H rfl (.refl hs) (by rw [m.length]; exact rep_int.mpr rfl)⟩
 ·obtain ⟨v,r,rfl,m,r0⟩:=rl.inv
  rw [r0.inv0]
  rw [uV] at m
  obtain ⟨p,rfl,sq⟩:=m
  exact ⟨p,_,rfl,.inl (hs.seq sq),k _ _ G H rfl (.refl hs) (by rw [List.length_map]; exact rep_int.mpr rfl)⟩
 ·exact ok.elim
noncomputable def Fq:List D→Res D
 | [.int i,.int j]=> .ok (.int (min i j))
 | _=> .bad
noncomputable def Fp:List D→Res D
 | [.int i,.int j]=> .ok (.int (max i j))
 | _=> .bad
noncomputable def eQ:List D→Res D
 | [.lst l]=> .ok (.lst l)
 | [.tup l]=> .ok (.lst l)
 | _=> .bad
noncomputable def ny:List D→Res D
 | [.lst l]=> .ok (.tup l)
 | [.tup l]=> .ok (.tup l)
 | _=> .bad
theorem y4 {K:W.Frag}:AX K E (fun xs H Q=>∃ p ys,xs=[.ref p]∧(gs K H p ys∨lL K H p ys)∧∀ l,H l=none→Q (.ref l) (bg H l (.lst ys))) eQ:=by
 intro G H vs ds Q hs rl ok k
 unfold eQ at ok k
 split at ok
 ·obtain ⟨v,r,rfl,m,r0⟩:=rl.inv
  rw [r0.inv0]
  rw [rep_lst] at m
  obtain ⟨p,xs,rfl,sq,m⟩:=m
  exact ⟨p,xs,rfl,.inl (hs.seq sq.sq),fun l hl=>k _ _ _ _ rfl (.new hs hl _) (rep_lst.mpr ⟨l,xs,rfl,.of ao,m.mono (Ext.new hs hl _).gg⟩)⟩
 ·obtain ⟨v,r,rfl,m,r0⟩:=rl.inv
  rw [r0.inv0]
  rw [rep_tup] at m
  obtain ⟨p,xs,rfl,sq,m⟩:=m
  exact ⟨p,xs,rfl,.inr (hs.seqT sq),fun l hl=>k _ _ _ _ rfl (.new hs hl _) (rep_lst.mpr ⟨l,xs,rfl,.of ao,m.mono (Ext.new hs hl _).gg⟩)⟩
 ·exact ok.elim
theorem wI {K:W.Frag}:AX K E (fun xs H Q=>∃ p ys,xs=[.ref p]∧((gs K H p ys∧∀ l,H l=none→Q (.ref l) (bg H l (.tup ys)))∨(lL K H p ys∧Q (.ref p) H))) ny:=by
 intro G H vs ds Q hs rl ok k
 unfold ny at ok k
 split at ok
 ·obtain ⟨v,r,rfl,m,r0⟩:=rl.inv
  rw [r0.inv0]
  rw [rep_lst] at m
  obtain ⟨p,xs,rfl,sq,m⟩:=m
  exact ⟨p,xs,rfl,.inl ⟨hs.seq sq.sq,fun l hl=>k _ _ _ _ rfl (.new hs hl _) (rep_tup.mpr ⟨l,xs,rfl,.of ao,m.mono (Ext.new hs hl _).gg⟩)⟩⟩
 ·obtain ⟨v,r,rfl,m,r0⟩:=rl.inv
  rw [r0.inv0]
  have rx':=m
  rw [rep_tup] at m
  obtain ⟨p,xs,rfl,sq,m⟩:=m
  exact ⟨p,xs,rfl,.inr ⟨hs.seqT sq,k _ _ G H rfl (.refl hs) rx'⟩⟩
 ·exact ok.elim
inductive pureSp (K:W.Frag)(m:List D→Res D)(vs:List V)(H:Hp)(Q:VK)(E:XK):Prop
 | mk (ds:List D) (G:Hp) (s:Same G H) (r:RepL K G ds vs) (o:OkR E H (m ds)) (k:∀ d,m ds= .ok d→∀ v G' H',Ext G H G' H'→Rep K G' d v→Q v H')
noncomputable def ll (C:Addr)(m:Str):D→Bool
 | .ins C' ns _=>C' == C && !ns.contains m
 | _=>false
noncomputable def iM (C:Addr)(m:Str)(fo:DS→Res D)(g:List D→Res D):DS→Res D:=fun ρ=>(fo ρ).bind fun o=>if ll C m o=true then g [o] else .bad
theorem mZ {fs:List (Str×V)}{m:Str}(h:(fs.map (·.1)).contains m=false):fs.lookup m=none:=by
 induction fs with
 | nil=>rfl
 | cons p r ih=>
  rw [List.map_cons,List.contains_cons,Bool.or_eq_false_iff] at h
  rw [List.lookup_cons]
  have:(m == p.1)=false:=h.1
  rw [this]
  exact ih h.2
theorem xQ {pl:Sem Bool}{CX:qy}{k:Nat}{f C:Addr}{fd:FuncData}{ps:List Str}{g:List D→Res D}{m:Str}{apos pos:Pos}{o:Expr}{fo:DS→Res D}(hoo:PD X E o fo)(c:Cls X.K C)(hm:Meth X.K C m f)(F:FnOk X.prog X.w X.K X.mg X.base CX k f fd ps (pureSp X.K g))(hr:Room k X.A)(hb:Binds X.K fd ps [])(hx:cL CX X E)
  (hpe:PE X (.Call (.Attribute o m apos) [] [] pos) (Bv C m (pureSp X.K g) [] E (tD X.K E fo) Dr)):PD X E (.Call (.Attribute o m apos) [] [] pos) (iM C m fo g):=by
 intro pins s σ G H ρ I hs hro ho
 refine aW (hpe pins s σ H (fun v H'=>∃ d G',iM C m fo g ρ= .ok d∧Ext G H G' H'∧Rep X.K G' d v) I ?_) fun u s' hZ101=>(by obtain ⟨v,H',I',r',d,G',e,x,rp⟩:=hZ101; exact ⟨d,e,v,G',H',I',r',x,rp⟩)
 refine ⟨G,ρ,hs,hro,ho.fst,fun dO e1 v G1 H1 x1 p1=> ?_⟩
 have kk:=ho.snd e1 x1.hh
 by_cases hi:ll C m dO=true
 ·rw [if_pos hi] at kk
  cases dO with
  | ins C' ns l=>
   have hi':=hi
   unfold ll at hi'
   rw [Bool.and_eq_true,beq_iff_eq,Bool.not_eq_true'] at hi'
   obtain ⟨rfl,hn⟩:=hi'
   have p1':=p1
   rw [rep_ins] at p1
   refine jd (p1) fun a dx fs hS54 ha hns _=> ?_; subst hS54
   refine (jh a dx fs rfl (x1.gh _ _ ha) (mZ (by rw [hns]; exact hn)) ?_)
   exact ⟨[.ins C' ns l],G1,x1.gh,.cons p1' .nil,kk,fun d ed v G' H' xx rp=>(du d G' (aq e1 (by rw [if_pos hi]; exact ed)) (x1.trans xx) rp)⟩
  | _=>cases hi
 ·rw [if_neg hi] at kk; exact kk.elim
noncomputable def qZ:List Str→List D→Str→Option D
 | n :: ns,d :: ds,f=>if n=f then some d else qZ ns ds f
 | _,_,_=>none
noncomputable def jY (C:Addr)(f:Str):D→Res D
 | .ins C' ns ds=>if C'=C then (match qZ ns ds f with | some d=> .ok d | none=> .bad) else .bad
 | _=> .bad
theorem ls {K:W.Frag}{G:Hp}{f:Str}{d:D}:∀ {fs:List (Str×V)} {ds:List D},RepL K G ds (fs.map (·.2))→qZ (fs.map (·.1)) ds f=some d→∃ v,fs.lookup f=some v∧Rep K G d v
 | [],ds,_,h=>by cases ds <;> cases h
 | (n,v) :: r,[],_,h=>by cases h
 | (n,v) :: r,e :: ds,hr,h=>by
  refine bp (hr.inv) fun v' r' q a b=> ?_
  rw [List.map_cons] at q
  cases q
  rw [List.map_cons] at h
  unfold qZ at h
  rw [List.lookup_cons]
  by_cases hn:n=f
  ·subst hn
   rw [if_pos rfl] at h
   cases h
   rw [show (n == n)=true by simp]
   exact ⟨v,rfl,a⟩
  ·rw [if_neg hn] at h
   rw [show (f == n)=false by simpa using Ne.symm hn]
   exact ls b h
theorem xN {C:Addr}{o:Expr}{f:Str}{pos:Pos}{fo:DS→Res D}(ho:PD X E o fo)(c:Cls X.K C)(n:NoAttr X.K C f)(hb:attributeBase o f X.env (eval o X.env)=eval o X.env:=by rfl):PD X E (.Attribute o f pos) (fun ρ=>(fo ρ).bind (jY C f)):=by
 intro pins s σ G H ρ I hs hro hok
 refine aW (CY (dR ho) hb pins s σ H (fun v H'=>∃ d G',((fo ρ).bind (jY C f))= .ok d∧Ext G H G' H'∧Rep X.K G' d v) I ?_) fun u s' hZ102=>(by obtain ⟨v,H',I',r',d,G',e,x,rp⟩:=hZ102; exact ⟨d,e,v,G',H',I',r',x,rp⟩)
 refine ⟨G,ρ,hs,hro,hok.fst,fun dO e1 v G1 H1 x1 p1=> ?_⟩
 have kk:=hok.snd e1 x1.hh
 cases dO with
 | ins C' ns l=>
  unfold jY at kk
  dsimp only at kk
  by_cases hc:C'=C
  ·subst hc
   rw [if_pos rfl] at kk
   rw [rep_ins] at p1
   refine jd (p1) fun a dx fs hS55 ha hns rl=> ?_; subst hS55
   subst hns
   cases q:qZ (fs.map (·.1)) l f with
   | none=>rw [q] at kk; exact kk.elim
   | some d=>
    obtain ⟨v,hv,rv⟩:=ls rl q
    exact (GO a C' dx fs v rfl (x1.gh _ _ ha) c n hv d G1 (aq e1 (by unfold jY; dsimp only; rw [if_pos rfl,q])) x1 rv)
  ·rw [if_neg hc] at kk; exact kk.elim
 | _=>exact kk.elim
theorem eB {op op':CmpOp}{a b c:Expr}{pos:Pos}{fa fb fc:DS→Res D}{o o':D→D→Res D}(ho:DOp X E (compareOp op) o)(ho':DOp X E (compareOp op') o')(ha:PD X E a fa)(hb:PD X E b fb)(hc:PD X E c fc)
  (hm:lastMarks [op,op'] [b,c]=false:=by with_unfolding_all rfl):va X E (.Compare a [op,op'] [b,c] pos) (gL fa fb fc o o'):=by
 intro z s σ G H ρ I hs hro hok
 refine isTrue_chain (aW (ha z s σ G H ρ I hs hro hok.fst) fun v s1 ⟨d1,e1,v1,G1,H1,I1,r1,x1,p1⟩=>test_link (aW (hb z s1 σ G1 H1 ρ I1 x1.gh (hro.mono x1.gg) (hok.snd e1 x1.hh).fst) fun u s2 hZ104=> ?_)) hm
 obtain ⟨d2,e2,v2,G2,H2,I2,r2,x2,p2⟩:=hZ104
 have k2:=(hok.snd e1 x1.hh).snd e2 x2.hh
 refine aW (ho z s2 σ G2 H2 v1 v2 d1 d2 v u I2 x2.gh (p1.mono x2.gg) p2 r1 r2 k2.fst) fun d s3 hZ105=> ?_
 obtain ⟨d3,e3,v3,G3,H3,I3,r3,x3,p3⟩:=hZ105
 have k3:=k2.snd e3 x3.hh
 cases d3 with
 | bl k=>
  rw [rep_bl] at p3; subst p3; cases r3
  refine wpAny_truthy_bool ?_
  cases k with
  | false=>exact ite_ff ⟨aq e1 (aq e2 (aq e3 rfl)),G3,H3,I3,(x1.trans x2).trans x3⟩
  | true=>
   refine ite_tt (test_last (aW (hc z s3 σ G3 H3 ρ I3 x3.gh (hro.mono ((x1.gg.trans x2.gg).trans x3.gg)) k3.fst) fun w' s4 hZ106=> ?_))
   obtain ⟨d4,e4,v4,G4,H4,I4,r4,x4,p4⟩:=hZ106
   have k4:=k3.snd e4 x4.hh
   refine aW (ho' z s4 σ G4 H4 v2 v4 d2 d4 u w' I4 x4.gh (p2.mono (x3.gg.trans x4.gg)) p4 r2 r4 k4.fst) fun d' s5 hZ107=> ?_
   obtain ⟨d5,e5,v5,G5,H5,I5,r5,x5,p5⟩:=hZ107
   have k5:=k4.snd e5 x5.hh
   cases d5 with
   | bl k=>
    rw [rep_bl] at p5; subst p5; cases r5
    exact wpAny_truthy_bool ⟨aq e1 (aq e2 (aq e3 (aq e4 (aq e5 rfl)))),G5,H5,I5,(((x1.trans x2).trans x3).trans x4).trans x5⟩
   | _=>exact k5.elim
 | _=>exact k3.elim
end
mutual
noncomputable def bR:D→D→Bool
 | .non,.non=>true
 | .bl a,.bl b=>a == b
 | .int a,.int b=>a == b
 | .bl a,.int b=>(if a then (1:Int) else 0) == b
 | .int a,.bl b=>a == (if b then (1:Int) else 0)
 | .str a,.str b=>a == b
 | .lst a,.lst b=>eqBL a b
 | .tup a,.tup b=>eqBL a b
 | _,_=>false
noncomputable def eqBL:List D→List D→Bool
 | [],[]=>true
 | a :: as,b :: bs=>bR a b && eqBL as bs
 | _,_=>false
end
mutual
noncomputable def aZ:Nat→D→Bool
 | _,.non=>true
 | _,.bl _=>true
 | _,.int _=>true
 | _,.str _=>true
 | n,.lst l=>decide (1≤n) && plL (n - 1) l
 | n,.tup l=>decide (1≤n) && plL (n - 1) l
 | _,.ins _ _ _=>false
 | _,.dct _ _=>false
 | _,.scr _=>false
 | _,.xc _=>false
 | _,.fdc _ _=>false
noncomputable def plL:Nat→List D→Bool
 | _,[]=>true
 | n,d :: ds=>aZ n d && plL n ds
end
theorem uL:∀ {n:Nat} {ds:List D} {i:Nat} {d:D},plL n ds=true→ds[i]?=some d→aZ n d=true
 | _,[],_,_,_,e=>by simp at e
 | n,a :: as,0,_,h,e=>by
  simp at e; subst e
  unfold plL at h; rw [Bool.and_eq_true] at h; exact h.1
 | n,a :: as,i+1,d,h,e=>by
  unfold plL at h; rw [Bool.and_eq_true] at h
  exact uL (i:=i) h.2 (by simpa using e)
theorem qO:∀ {as bs:List D} {n:Nat} {e:Nat→Bool},as.length=bs.length→(∀ (i:Nat) (a b:D),as[i]?=some a→bs[i]?=some b→e i=bR a b)→n=as.length→(List.range n).all e=eqBL as bs
 | [],[],_,_,_,_,hn=>by subst hn; unfold eqBL; rfl
 | [],_ :: _,_,_,h,_,_=>by simp at h
 | _ :: _,[],_,_,h,_,_=>by simp at h
 | a :: as,b :: bs,n,e,h,he,hn=>by
  subst hn
  unfold eqBL
  rw [List.length_cons,List.range_succ_eq_map,List.all_cons,he 0 a b rfl rfl,List.all_map]
  congr 1
  exact qO (e:=e ∘ Nat.succ) (by simpa using h) (fun i x y hx hy=>he (i+1) x y (by simpa using hx) (by simpa using hy)) rfl
theorem my:∀ {as bs:List D},as.length≠bs.length→eqBL as bs=false
 | [],[],h=>absurd rfl h
 | [],_ :: _,_=>by unfold eqBL; rfl
 | _ :: _,[],_=>by unfold eqBL; rfl
 | a :: as,b :: bs,h=>by
  unfold eqBL
  rw [my (as:=as) (bs:=bs) (fun z=>h (by simp [z])),Bool.and_false]
mutual
theorem mB:∀ {n:Nat} {d:D},aZ n d=true→bR d d=true
 | _,.non,_=>by unfold bR; rfl
 | _,.bl b,_=>by unfold bR; simp
 | _,.int b,_=>by unfold bR; simp
 | _,.str b,_=>by unfold bR; simp
 | n,.lst l,h=>by
  unfold aZ at h; rw [Bool.and_eq_true] at h
  unfold bR; exact eqBL_refl h.2
 | n,.tup l,h=>by
  unfold aZ at h; rw [Bool.and_eq_true] at h
  unfold bR; exact eqBL_refl h.2
 | _,.ins _ _ _,h=>by unfold aZ at h; cases h
theorem eqBL_refl:∀ {n:Nat} {ds:List D},plL n ds=true→eqBL ds ds=true
 | _,[],_=>by unfold eqBL; rfl
 | n,d :: ds,h=>by
  unfold plL at h; rw [Bool.and_eq_true] at h
  unfold eqBL; rw [mB h.1,eqBL_refl h.2]; rfl
end
section
variable{X:Cx}{E:XK}{pins:List (Addr×Obj)}{σ:St}{G H:Hp}{s:Shared}
theorem Inv.isTup (I:Inv X pins σ H s){a:Addr}{xs:List V}(h:lL X.K H a xs):∃ its:List Value,Vals xs its∧s.heap.IsTuple a its.toArray:=by
 refine cw (I.tuple h) fun its r p _=> ?_
 exact ⟨its,r,p⟩
theorem Inv.isLst (I:Inv X pins σ H s){a:Addr}{xs:List V}(h:gs X.K H a xs):∃ its:List Value,Vals xs its∧s.heap.IsList a its.toArray:=by
 refine cw (I.list h) fun its r p _=> ?_
 exact ⟨its,r,p.isList⟩
mutual
theorem Rep.inj (I:Inv X pins σ H s)(hs:Same G H):∀ {n m:Nat} {d e:D} {x:V},aZ n d=true→aZ m e=true→Rep X.K G d x→Rep X.K G e x→d=e
 | _,_,.non,e,x,_,he,hx,hy=>by
  rw [rep_non] at hx; subst hx
  cases e with
  | non=>rfl
  | bl b=>rw [rep_bl] at hy; cases hy
  | int b=>rw [rep_int] at hy; cases hy
  | str b=>rw [rep_str] at hy; cases hy
  | lst b=>rw [rep_lst] at hy; refine lh (hy) fun _ _ q _=> ?_; cases q
  | tup b=>rw [rep_tup] at hy; refine lh (hy) fun _ _ q _=> ?_; cases q
  | ins _ _ _=>unfold aZ at he; cases he
  | dct _ _=>unfold aZ at he; cases he
  | scr _=>unfold aZ at he; cases he
  | xc _=>unfold aZ at he; cases he
  | fdc _ _=>unfold aZ at he; cases he
 | _,_,.bl c,e,x,_,he,hx,hy=>by
  rw [rep_bl] at hx; subst hx
  cases e with
  | non=>rw [rep_non] at hy; cases hy
  | bl b=>rw [rep_bl] at hy; cases hy; rfl
  | int b=>rw [rep_int] at hy; cases hy
  | str b=>rw [rep_str] at hy; cases hy
  | lst b=>rw [rep_lst] at hy; refine lh (hy) fun _ _ q _=> ?_; cases q
  | tup b=>rw [rep_tup] at hy; refine lh (hy) fun _ _ q _=> ?_; cases q
  | ins _ _ _=>unfold aZ at he; cases he
  | dct _ _=>unfold aZ at he; cases he
  | scr _=>unfold aZ at he; cases he
  | xc _=>unfold aZ at he; cases he
  | fdc _ _=>unfold aZ at he; cases he
 | _,_,.int c,e,x,_,he,hx,hy=>by
  rw [rep_int] at hx; subst hx
  cases e with
  | non=>rw [rep_non] at hy; cases hy
  | bl b=>rw [rep_bl] at hy; cases hy
  | int b=>rw [rep_int] at hy; cases hy; rfl
  | str b=>rw [rep_str] at hy; cases hy
  | lst b=>rw [rep_lst] at hy; refine lh (hy) fun _ _ q _=> ?_; cases q
  | tup b=>rw [rep_tup] at hy; refine lh (hy) fun _ _ q _=> ?_; cases q
  | ins _ _ _=>unfold aZ at he; cases he
  | dct _ _=>unfold aZ at he; cases he
  | scr _=>unfold aZ at he; cases he
  | xc _=>unfold aZ at he; cases he
  | fdc _ _=>unfold aZ at he; cases he
 | _,_,.str c,e,x,_,he,hx,hy=>by
  rw [rep_str] at hx; subst hx
  cases e with
  | non=>rw [rep_non] at hy; cases hy
  | bl b=>rw [rep_bl] at hy; cases hy
  | int b=>rw [rep_int] at hy; cases hy
  | str b=>rw [rep_str] at hy; cases hy; rfl
  | lst b=>rw [rep_lst] at hy; refine lh (hy) fun _ _ q _=> ?_; cases q
  | tup b=>rw [rep_tup] at hy; refine lh (hy) fun _ _ q _=> ?_; cases q
  | ins _ _ _=>unfold aZ at he; cases he
  | dct _ _=>unfold aZ at he; cases he
  | scr _=>unfold aZ at he; cases he
  | xc _=>unfold aZ at he; cases he
  | fdc _ _=>unfold aZ at he; cases he
 | n,m,.lst c,e,x,hd,he,hx,hy=>by
  rw [rep_lst] at hx
  refine bp (hx) fun a xs hS56 sq rl=> ?_; subst hS56
  unfold aZ at hd; rw [Bool.and_eq_true] at hd
  cases e with
  | non=>rw [rep_non] at hy; cases hy
  | bl b=>rw [rep_bl] at hy; cases hy
  | int b=>rw [rep_int] at hy; cases hy
  | str b=>rw [rep_str] at hy; cases hy
  | lst b=>
   rw [rep_lst] at hy
   refine bp (hy) fun a' ys q o p=> ?_
   cases q
   rw [I.list_inj (hs.seq o.sq) (hs.seq sq.sq)] at p
   unfold aZ at he; rw [Bool.and_eq_true] at he
   rw [RepL.inj I hs hd.2 he.2 rl p]
  | tup b=>
   rw [rep_tup] at hy
   refine bp (hy) fun a' ys q o p=> ?_
   cases q
   refine cps fun PP kP=> ?_
   obtain ⟨_,_,p1⟩:=I.isLst (hs.seq sq.sq)
   obtain ⟨_,_,p2⟩:=I.isTup (hs.seqT o.sq)
   refine kP ?_; clear kP PP
   exact absurd rfl (SeqAt.ne_of_list_tuple p1 p2)
  | ins _ _ _=>unfold aZ at he; cases he
  | dct _ _=>unfold aZ at he; cases he
  | scr _=>unfold aZ at he; cases he
  | xc _=>unfold aZ at he; cases he
  | fdc _ _=>unfold aZ at he; cases he
 | n,m,.tup c,e,x,hd,he,hx,hy=>by
  rw [rep_tup] at hx
  refine bp (hx) fun a xs hS57 sq rl=> ?_; subst hS57
  unfold aZ at hd; rw [Bool.and_eq_true] at hd
  cases e with
  | non=>rw [rep_non] at hy; cases hy
  | bl b=>rw [rep_bl] at hy; cases hy
  | int b=>rw [rep_int] at hy; cases hy
  | str b=>rw [rep_str] at hy; cases hy
  | tup b=>
   rw [rep_tup] at hy
   refine bp (hy) fun a' ys q o p=> ?_
   cases q
   rw [I.tuple_inj (hs.seqT o.sq) (hs.seqT sq.sq)] at p
   unfold aZ at he; rw [Bool.and_eq_true] at he
   rw [RepL.inj I hs hd.2 he.2 rl p]
  | lst b=>
   rw [rep_lst] at hy
   refine bp (hy) fun a' ys q o p=> ?_
   cases q
   refine cps fun PP kP=> ?_
   obtain ⟨_,_,p1⟩:=I.isLst (hs.seq o.sq)
   obtain ⟨_,_,p2⟩:=I.isTup (hs.seqT sq.sq)
   refine kP ?_; clear kP PP
   exact absurd rfl (SeqAt.ne_of_list_tuple p1 p2)
  | ins _ _ _=>unfold aZ at he; cases he
  | dct _ _=>unfold aZ at he; cases he
  | scr _=>unfold aZ at he; cases he
  | xc _=>unfold aZ at he; cases he
  | fdc _ _=>unfold aZ at he; cases he
 | _,_,.ins _ _ _,_,_,hd,_,_,_=>by unfold aZ at hd; cases hd
theorem RepL.inj (I:Inv X pins σ H s)(hs:Same G H):∀ {n m:Nat} {ds es:List D} {xs:List V},plL n ds=true→plL m es=true→RepL X.K G ds xs→RepL X.K G es xs→ds=es
 | _,_,[],es,_,_,_,h,h'=>by
  rw [h.inv0] at h'
  cases es with
  | nil=>rfl
  | cons e es=>refine lh (h'.inv) fun _ _ q _=> ?_; cases q
 | _,_,d :: ds,es,_,hd,he,h,h'=>by
  refine bp (h.inv) fun v r hS58 a b=> ?_; subst hS58
  cases es with
  | nil=>have z:=h'.inv0; cases z
  | cons e es=>
   refine bp (h'.inv) fun v' r' q a' b'=> ?_
   cases q
   unfold plL at hd he
   rw [Bool.and_eq_true] at hd he
   rw [Rep.inj I hs hd.1 he.1 a a',RepL.inj I hs hd.2 he.2 b b']
end
end
end L2
namespace L2
open PySem PySem.Spec PyProof.Rows PySem.SeqAt
section
variable{X:Cx}{E:XK}{pins:List (Addr×Obj)}{σ:St}{G H:Hp}{s:Shared}
noncomputable def Gg (A:Around)(s:Shared)(u v:Value)(b:Bool):Prop:=EqAt A s u v b∧RcAt A s u v b∧RcNeAt A s u v (!b)
theorem u4 {xs:List V}{us:List Value}(r:Vals xs us){j:Nat}(h:j < us.toArray.size):∃ x,xs[j]?=some x∧RelV x us.toArray[j]:=by
 have hl:=r.length
 have h':j < us.length:=by simpa using h
 have hx:j < xs.length:=by omega
 obtain ⟨u,hu,ru⟩:=r.get (i:=j) (x:=xs[j]) (by simp [hx])
 refine ⟨xs[j],by simp [hx],?_⟩
 have e:us.toArray[j]=u:=by
  have q:us[j]?=some us[j]:=by simp [h']
  rw [q] at hu
  cases hu
  simp
 rw [e]; exact ru
theorem jV {n:Nat}{ds es:List D}{xs ys:List V}{us vs:List Value}{A:Around}(rd:RepL X.K G ds xs)(re:RepL X.K G es ys)(ru:Vals xs us)(rv:Vals ys vs)
  (ih:∀ (d e:D) (x y:V) (u v:Value),d∈ds→e∈es→Rep X.K G d x→Rep X.K G e y→RelV x u→RelV y v→EqAt A s u v (bR d e)) :
  ∀ j (h1:j < us.toArray.size) (h2:j < vs.toArray.size),EqAt A s us.toArray[j] vs.toArray[j] (bR (ds.getD j .non) (es.getD j .non)):=by
 intro j h1 h2
 refine cps fun PP kP=> ?_
 obtain ⟨x,hx,rx⟩:=u4 ru h1
 obtain ⟨y,hy,ry⟩:=u4 rv h2
 refine kP ?_; clear kP PP
 have l1:=rd.length
 have l2:=re.length
 have jx:j < ds.length:=by rw [l1]; exact (fG hx).1
 have jy:j < es.length:=by rw [l2]; exact (fG hy).1
 have e1:ds[j]?=some ds[j]:=by simp [jx]
 have e2:es[j]?=some es[j]:=by simp [jy]
 refine cps fun PP kP=> ?_
 obtain ⟨x',hx',px⟩:=rd.get e1
 obtain ⟨y',hy',py⟩:=re.get e2
 refine kP ?_; clear kP PP
 rw [hx] at hx'; cases hx'
 rw [hy] at hy'; cases hy'
 have g1:ds.getD j .non=ds[j]:=by simp [List.getD,e1]
 have g2:es.getD j .non=es[j]:=by simp [List.getD,e2]
 rw [g1,g2]
 exact ih _ _ x y _ _ (List.getElem_mem jx) (List.getElem_mem jy) px py rx ry
theorem ut {ds:List D}{i:Nat}{d:D}(h:ds[i]?=some d):ds.getD i .non=d:=by simp [List.getD,h]
theorem mz {ds es:List D}{us vs:List Value}{xs ys:List V}(rd:RepL X.K G ds xs)(re:RepL X.K G es ys)(ru:Vals xs us)(rv:Vals ys vs)(hsz:us.toArray.size=vs.toArray.size) :
  (List.range us.toArray.size).all (fun j=>bR (ds.getD j .non) (es.getD j .non))=eqBL ds es:=by
 have l1:=rd.length; have l2:=re.length; have l3:=ru.length; have l4:=rv.length
 have h1:us.length=vs.length:=by simpa using hsz
 refine qO (by omega) (fun i a b ha hb=> ?_) (by simp; omega)
 rw [ut ha,ut hb]
noncomputable def Gk (K:W.Frag)(G:Hp)(s:Shared):D→Value→Prop
 | .non,u=>u= .none
 | .bl b,u=>u= .bool b
 | .int i,u=>∃ t,u= .int i t
 | .str x,u=>∃ t,u= .str x t
 | .lst ds,u=>∃ a its xs,u= .ref a∧s.heap.IsList a its.toArray∧RepL K G ds xs∧Vals xs its
 | .tup ds,u=>∃ a its xs,u= .ref a∧s.heap.IsTuple a its.toArray∧RepL K G ds xs∧Vals xs its
 | .ins _ _ _,_=>True
 | .dct _ _,_=>True
 | .scr _,_=>True
 | .xc _,_=>True
 | .fdc _ _,_=>True
theorem lQ (I:Inv X pins σ H s)(hs:Same G H){d:D}{x:V}{u:Value}(rx:Rep X.K G d x)(ru:RelV x u):Gk X.K G s d u:=by
 cases d with
 | non=>rw [rep_non] at rx; subst rx; exact ru
 | bl b=>rw [rep_bl] at rx; subst rx; exact ru
 | int i=>rw [rep_int] at rx; subst rx; exact ru
 | str i=>rw [rep_str] at rx; subst rx; exact ru
 | lst l=>
  rw [rep_lst] at rx
  refine cps fun PP kP=> ?_
  refine bp (rx) fun a xs hS59 sq rl=> ?_; subst hS59
  obtain ⟨its,r,p⟩:=I.isLst (hs.seq sq.sq)
  refine kP ?_; clear kP PP
  exact (jh a its xs ru p rl r)
 | tup l=>
  rw [rep_tup] at rx
  refine cps fun PP kP=> ?_
  refine bp (rx) fun a xs hS60 sq rl=> ?_; subst hS60
  obtain ⟨its,r,p⟩:=I.isTup (hs.seqT sq.sq)
  refine kP ?_; clear kP PP
  exact (jh a its xs ru p rl r)
 | ins _ _ _=>trivial
 | dct _ _=>trivial
 | scr _=>trivial
 | xc _=>trivial
 | fdc _ _=>trivial
theorem vq {n m:Nat}{ds es:List D}{a b:Addr}{xs ys:List V}{us vs:List Value}{A:Around}(hu:A.units < cLine)(ha:s.heap.IsList a us.toArray)(hb:s.heap.IsList b vs.toArray)(rd:RepL X.K G ds xs)(re:RepL X.K G es ys)(ru:Vals xs us)(rv:Vals ys vs)
  (same:a=b→eqBL ds es=true)
  (ih:∀ (d e:D) (x y:V) (u v:Value),d∈ds→e∈es→Rep X.K G d x→Rep X.K G e y→RelV x u→RelV y v→EqAt A.in1 s u v (bR d e)):Gg A s (.ref a) (.ref b) (eqBL ds es):=by
 have l1:=rd.length; have l2:=re.length; have l3:=ru.length; have l4:=rv.length
 have rc:RcAt A s (.ref a) (.ref b) (eqBL ds es)∧RcNeAt A s (.ref a) (.ref b) (!eqBL ds es):=by
  by_cases p:us.toArray.size=vs.toArray.size
  ·have e1:=mz rd re ru rv p
   rw [← e1]
   exact ⟨RcAt.lists ha hb p hu (jV (n:=n) rd re ru rv ih),RcNeAt.lists ha hb p hu (jV (n:=n) rd re ru rv ih)⟩
  ·have e1:eqBL ds es=false:=my fun z=>p (by simp; omega)
   rw [e1]
   have hne:(us.toArray.size != vs.toArray.size)=true:=by simpa using p
   exact ⟨RcAt.lists_lengths ha hb hne hu,RcNeAt.lists_lengths ha hb hne hu⟩
 refine ⟨?_,rc.1,rc.2⟩
 by_cases hab:a=b
 ·subst hab
  rw [same rfl]
  exact EqAt.same _
 ·exact EqAt.of_refs hab rc.1
theorem sB {n m:Nat}{ds es:List D}{a b:Addr}{xs ys:List V}{us vs:List Value}{A:Around}(hu:A.units < cLine)(ha:s.heap.IsTuple a us.toArray)(hb:s.heap.IsTuple b vs.toArray)(rd:RepL X.K G ds xs)(re:RepL X.K G es ys)(ru:Vals xs us)(rv:Vals ys vs)
  (same:a=b→eqBL ds es=true)
  (ih:∀ (d e:D) (x y:V) (u v:Value),d∈ds→e∈es→Rep X.K G d x→Rep X.K G e y→RelV x u→RelV y v→EqAt A.in1 s u v (bR d e)):Gg A s (.ref a) (.ref b) (eqBL ds es):=by
 have l1:=rd.length; have l2:=re.length; have l3:=ru.length; have l4:=rv.length
 have val:((List.range (min us.toArray.size vs.toArray.size)).all (fun j=>bR (ds.getD j .non) (es.getD j .non)) && us.toArray.size == vs.toArray.size)=eqBL ds es:=by
  by_cases p:us.toArray.size=vs.toArray.size
  ·have e1:=mz rd re ru rv p
   rw [← p,Nat.min_self,e1]
   simp
  ·have e1:eqBL ds es=false:=my fun z=>p (by simp; omega)
   have e2:(us.toArray.size == vs.toArray.size)=false:=by simpa using p
   rw [e1,e2,Bool.and_false]
 have rc:RcAt A s (.ref a) (.ref b) (eqBL ds es)∧RcNeAt A s (.ref a) (.ref b) (!eqBL ds es):=by
  rw [← val]
  exact ⟨RcAt.tuples ha hb hu (jV (n:=n) rd re ru rv ih),RcNeAt.tuples ha hb hu (jV (n:=n) rd re ru rv ih)⟩
 refine ⟨?_,rc.1,rc.2⟩
 by_cases hab:a=b
 ·subst hab
  rw [same rfl]
  exact EqAt.same _
 ·exact EqAt.of_refs hab rc.1
theorem dh {n:Nat}{ds:List D}{d:D}(h:plL n ds=true)(hd:d∈ds):aZ n d=true:=by
 obtain ⟨i,hi⟩:=List.getElem?_of_mem hd
 exact uL h hi
theorem mx (I:Inv X pins σ H s)(hs:Same G H):∀ (n m:Nat) (d e:D) (x y:V) (u v:Value) (A:Around),aZ n d=true→aZ m e=true→Rep X.K G d x→Rep X.K G e y→RelV x u→RelV y v→A.units+n < cLine→Gg A s u v (bR d e):=by
 intro n
 induction n with
 | zero=>
  intro m d e x y u v A C r o F P O hu
  have kd:=lQ I hs o P
  have w:=lQ I hs F O
  have q:A.units < cLine:=by omega
  cases d with
  | lst l=>unfold aZ at C; simp at C
  | tup l=>unfold aZ at C; simp at C
  | ins _ _ _=>unfold aZ at C; cases C
  | dct _ _=>unfold aZ at C; cases C
  | scr _=>unfold aZ at C; cases C
  | xc _=>unfold aZ at C; cases C
  | fdc _ _=>unfold aZ at C; cases C
  | non=>
   cases (show u= .none from kd)
   cases e with
   | non=>cases (show v= .none from w); unfold bR; exact ⟨EqAt.same _,RcAt.none_none,RcNeAt.none_none⟩
   | bl b=>cases (show v= .bool b from w); unfold bR; exact ⟨EqAt.none_bool _,RcAt.none_bool _,RcNeAt.none_bool _⟩
   | int b=>obtain ⟨t,rfl⟩:=w; unfold bR; exact ⟨EqAt.none_int _ _,RcAt.none_int _ _,RcNeAt.none_int _ _⟩
   | str b=>obtain ⟨t,rfl⟩:=w; unfold bR; exact ⟨EqAt.none_str _ _,RcAt.none_str _ _,RcNeAt.none_str _ _⟩
   | lst b=>refine nX (w) fun a E M hS61 p _=> ?_; subst hS61; unfold bR; exact ⟨EqAt.none_list p q,RcAt.none_list p q,RcNeAt.none_list p q⟩
   | tup b=>refine nX (w) fun a E M hS62 p _=> ?_; subst hS62; unfold bR; exact ⟨EqAt.none_tuple p q,RcAt.none_tuple p q,RcNeAt.none_tuple p q⟩
   | ins _ _ _=>unfold aZ at r; cases r
   | dct _ _=>unfold aZ at r; cases r
   | scr _=>unfold aZ at r; cases r
   | xc _=>unfold aZ at r; cases r
   | fdc _ _=>unfold aZ at r; cases r
  | bl c=>
   cases (show u= .bool c from kd)
   cases e with
   | non=>cases (show v= .none from w); unfold bR; exact ⟨EqAt.bool_none _,RcAt.bool_none _,RcNeAt.bool_none _⟩
   | bl b=>cases (show v= .bool b from w); unfold bR; exact ⟨EqAt.bool_bool _ _,RcAt.bool_bool _ _,RcNeAt.bool_bool _ _⟩
   | int b=>obtain ⟨t,rfl⟩:=w; unfold bR; exact ⟨EqAt.bool_int _ _ _,RcAt.bool_int _ _ _,RcNeAt.bool_int _ _ _⟩
   | str b=>obtain ⟨t,rfl⟩:=w; unfold bR; exact ⟨EqAt.bool_str _ _ _,RcAt.bool_str _ _ _,RcNeAt.bool_str _ _ _⟩
   | lst b=>refine nX (w) fun a E M hS63 p _=> ?_; subst hS63; unfold bR; exact ⟨EqAt.bool_list _ p q,RcAt.bool_list _ p q,RcNeAt.bool_list _ p q⟩
   | tup b=>refine nX (w) fun a E M hS64 p _=> ?_; subst hS64; unfold bR; exact ⟨EqAt.bool_tuple _ p q,RcAt.bool_tuple _ p q,RcNeAt.bool_tuple _ p q⟩
   | ins _ _ _=>unfold aZ at r; cases r
   | dct _ _=>unfold aZ at r; cases r
   | scr _=>unfold aZ at r; cases r
   | xc _=>unfold aZ at r; cases r
   | fdc _ _=>unfold aZ at r; cases r
  | int c=>
   obtain ⟨t0,rfl⟩:=kd
   cases e with
   | non=>cases (show v= .none from w); unfold bR; exact ⟨EqAt.int_none _ _,RcAt.int_none _ _,RcNeAt.int_none _ _⟩
   | bl b=>cases (show v= .bool b from w); unfold bR; exact ⟨EqAt.int_bool _ _ _,RcAt.int_bool _ _ _,RcNeAt.int_bool _ _ _⟩
   | int b=>obtain ⟨t,rfl⟩:=w; unfold bR; exact ⟨EqAt.int_int _ _ _ _,RcAt.int_int _ _ _ _,RcNeAt.int_int _ _ _ _⟩
   | str b=>obtain ⟨t,rfl⟩:=w; unfold bR; exact ⟨EqAt.int_str _ _ _ _,RcAt.int_str _ _ _ _,RcNeAt.int_str _ _ _ _⟩
   | lst b=>refine nX (w) fun a E M hS65 p _=> ?_; subst hS65; unfold bR; exact ⟨EqAt.int_list _ _ p q,RcAt.int_list _ _ p q,RcNeAt.int_list _ _ p q⟩
   | tup b=>refine nX (w) fun a E M hS66 p _=> ?_; subst hS66; unfold bR; exact ⟨EqAt.int_tuple _ _ p q,RcAt.int_tuple _ _ p q,RcNeAt.int_tuple _ _ p q⟩
   | ins _ _ _=>unfold aZ at r; cases r
   | dct _ _=>unfold aZ at r; cases r
   | scr _=>unfold aZ at r; cases r
   | xc _=>unfold aZ at r; cases r
   | fdc _ _=>unfold aZ at r; cases r
  | str c=>
   obtain ⟨t0,rfl⟩:=kd
   cases e with
   | non=>cases (show v= .none from w); unfold bR; exact ⟨EqAt.str_none _ _,RcAt.str_none _ _,RcNeAt.str_none _ _⟩
   | bl b=>cases (show v= .bool b from w); unfold bR; exact ⟨EqAt.str_bool _ _ _,RcAt.str_bool _ _ _,RcNeAt.str_bool _ _ _⟩
   | int b=>obtain ⟨t,rfl⟩:=w; unfold bR; exact ⟨EqAt.str_int _ _ _ _,RcAt.str_int _ _ _ _,RcNeAt.str_int _ _ _ _⟩
   | str b=>obtain ⟨t,rfl⟩:=w; unfold bR; exact ⟨EqAt.str_str _ _ _ _,RcAt.str_str _ _ _ _,RcNeAt.str_str _ _ _ _⟩
   | lst b=>refine nX (w) fun a E M hS67 p _=> ?_; subst hS67; unfold bR; exact ⟨EqAt.str_list _ _ p q,RcAt.str_list _ _ p q,RcNeAt.str_list _ _ p q⟩
   | tup b=>refine nX (w) fun a E M hS68 p _=> ?_; subst hS68; unfold bR; exact ⟨EqAt.str_tuple _ _ p q,RcAt.str_tuple _ _ p q,RcNeAt.str_tuple _ _ p q⟩
   | ins _ _ _=>unfold aZ at r; cases r
   | dct _ _=>unfold aZ at r; cases r
   | scr _=>unfold aZ at r; cases r
   | xc _=>unfold aZ at r; cases r
   | fdc _ _=>unfold aZ at r; cases r
 | succ n ih=>
  intro m d e x y u v A C r o F P O hu
  have kd:=lQ I hs o P
  have w:=lQ I hs F O
  have q:A.units < cLine:=by omega
  have hu1:A.in1.units+n < cLine:=by show A.units+1+n < cLine; omega
  have N:∀ (c:D),aZ (n+1) c=true→(match c with | .lst _=>False | .tup _=>False | _=>True)→aZ n c=true:=fun c h hc=>by cases c <;> first | exact hc.elim | (unfold aZ at h ⊢; exact h)
  cases d with
  | lst l=>
   refine jd (kd) fun a us M hS69 B rl r1=> ?_; subst hS69
   have hd':=C
   unfold aZ at hd'; rw [Bool.and_eq_true] at hd'
   cases e with
   | non=>cases (show v= .none from w); unfold bR; exact ⟨EqAt.list_none B q,RcAt.list_none B q,RcNeAt.list_none B q⟩
   | bl b=>cases (show v= .bool b from w); unfold bR; exact ⟨EqAt.list_bool _ B q,RcAt.list_bool _ B q,RcNeAt.list_bool _ B q⟩
   | int b=>obtain ⟨t,rfl⟩:=w; unfold bR; exact ⟨EqAt.list_int _ _ B q,RcAt.list_int _ _ B q,RcNeAt.list_int _ _ B q⟩
   | str b=>obtain ⟨t,rfl⟩:=w; unfold bR; exact ⟨EqAt.list_str _ _ B q,RcAt.list_str _ _ B q,RcNeAt.list_str _ _ B q⟩
   | lst l2=>
    refine jd (w) fun b vs ys hS70 J L r2=> ?_; subst hS70
    have he':=r
    unfold aZ at he'; rw [Bool.and_eq_true] at he'
    unfold bR
    refine vq (X:=X) (n:=n) (m:=m) q B J rl L r1 r2 (fun hab=> ?_) fun d' e' x' y' u' v' hm1 hm2 q1 q2 q3 q4=>(ih (m - 1) d' e' x' y' u' v' A.in1 (dh hd'.2 hm1) (dh he'.2 hm2) q1 q2 q3 q4 hu1).1
    subst hab
    have ex:x= .ref a:=by rw [rep_lst] at o; refine lh (o) fun a' _ hS71 _=> ?_; subst hS71; cases P; rfl
    have ey:y= .ref a:=by rw [rep_lst] at F; refine lh (F) fun a' _ hS72 _=> ?_; subst hS72; cases O; rfl
    subst ex ey
    have z:=Rep.inj I hs C r o F
    cases z
    exact eqBL_refl hd'.2
   | tup l2=>
    refine jd (w) fun b vs ys hS73 J L r2=> ?_; subst hS73
    unfold bR
    exact ⟨EqAt.list_tuple B J q,RcAt.list_tuple B J q,RcNeAt.list_tuple B J q⟩
   | ins _ _ _=>unfold aZ at r; cases r
   | dct _ _=>unfold aZ at r; cases r
   | scr _=>unfold aZ at r; cases r
   | xc _=>unfold aZ at r; cases r
   | fdc _ _=>unfold aZ at r; cases r
  | tup l=>
   refine jd (kd) fun a us M hS74 B rl r1=> ?_; subst hS74
   have hd':=C
   unfold aZ at hd'; rw [Bool.and_eq_true] at hd'
   cases e with
   | non=>cases (show v= .none from w); unfold bR; exact ⟨EqAt.tuple_none B q,RcAt.tuple_none B q,RcNeAt.tuple_none B q⟩
   | bl b=>cases (show v= .bool b from w); unfold bR; exact ⟨EqAt.tuple_bool _ B q,RcAt.tuple_bool _ B q,RcNeAt.tuple_bool _ B q⟩
   | int b=>obtain ⟨t,rfl⟩:=w; unfold bR; exact ⟨EqAt.tuple_int _ _ B q,RcAt.tuple_int _ _ B q,RcNeAt.tuple_int _ _ B q⟩
   | str b=>obtain ⟨t,rfl⟩:=w; unfold bR; exact ⟨EqAt.tuple_str _ _ B q,RcAt.tuple_str _ _ B q,RcNeAt.tuple_str _ _ B q⟩
   | tup l2=>
    refine jd (w) fun b vs ys hS75 J L r2=> ?_; subst hS75
    have he':=r
    unfold aZ at he'; rw [Bool.and_eq_true] at he'
    unfold bR
    refine sB (X:=X) (n:=n) (m:=m) q B J rl L r1 r2 (fun hab=> ?_) fun d' e' x' y' u' v' hm1 hm2 q1 q2 q3 q4=>(ih (m - 1) d' e' x' y' u' v' A.in1 (dh hd'.2 hm1) (dh he'.2 hm2) q1 q2 q3 q4 hu1).1
    subst hab
    have ex:x= .ref a:=by rw [rep_tup] at o; refine lh (o) fun a' _ hS76 _=> ?_; subst hS76; cases P; rfl
    have ey:y= .ref a:=by rw [rep_tup] at F; refine lh (F) fun a' _ hS77 _=> ?_; subst hS77; cases O; rfl
    subst ex ey
    have z:=Rep.inj I hs C r o F
    cases z
    exact eqBL_refl hd'.2
   | lst l2=>
    refine jd (w) fun b vs ys hS78 J L r2=> ?_; subst hS78
    unfold bR
    exact ⟨EqAt.tuple_list B J q,RcAt.tuple_list B J q,RcNeAt.tuple_list B J q⟩
   | ins _ _ _=>unfold aZ at r; cases r
   | dct _ _=>unfold aZ at r; cases r
   | scr _=>unfold aZ at r; cases r
   | xc _=>unfold aZ at r; cases r
   | fdc _ _=>unfold aZ at r; cases r
  | ins _ _ _=>unfold aZ at C; cases C
  | dct _ _=>unfold aZ at C; cases C
  | scr _=>unfold aZ at C; cases C
  | xc _=>unfold aZ at C; cases C
  | fdc _ _=>unfold aZ at C; cases C
  | non=>exact ih m _ e x y u v A (N _ C trivial) r o F P O (by omega)
  | bl c=>exact ih m _ e x y u v A (N _ C trivial) r o F P O (by omega)
  | int c=>exact ih m _ e x y u v A (N _ C trivial) r o F P O (by omega)
  | str c=>exact ih m _ e x y u v A (N _ C trivial) r o F P O (by omega)
noncomputable def wv (d e:D):Res D:=if aZ 20 d=true∧aZ 20 e=true then .ok (.bl (bR d e)) else .bad
noncomputable def vW (d e:D):Res D:=if aZ 20 d=true∧aZ 20 e=true then .ok (.bl (!bR d e)) else .bad
theorem om (hu:X.A.units+64 < cLine):DOp X E (compareOp .Eq) wv:=by
 intro pins s σ G H x y dx dy v u I hs rx ry rv ru ok
 unfold wv at ok ⊢
 by_cases h:aZ 20 dx=true∧aZ 20 dy=true
 ·rw [if_pos h]
  exact (mx I hs 20 20 dx dy x y v u X.A h.1 h.2 rx ry rv ru (by omega)).2.1 _ _ _ _ ⟨_,rfl,.bl (bR dx dy),G,H,I,rfl,.refl hs,rep_bl.mpr rfl⟩
 ·rw [if_neg h] at ok; exact ok.elim
theorem qM (hu:X.A.units+64 < cLine):DOp X E (compareOp .NotEq) vW:=by
 intro pins s σ G H x y dx dy v u I hs rx ry rv ru ok
 unfold vW at ok ⊢
 by_cases h:aZ 20 dx=true∧aZ 20 dy=true
 ·rw [if_pos h]
  exact (mx I hs 20 20 dx dy x y v u X.A h.1 h.2 rx ry rv ru (by omega)).2.2 _ _ _ _ ⟨_,rfl,.bl (!bR dx dy),G,H,I,rfl,.refl hs,rep_bl.mpr rfl⟩
 ·rw [if_neg h] at ok; exact ok.elim
end
section
variable{X:Cx}{E:XK}{pins:List (Addr×Obj)}{σ:St}{G H:Hp}{s:Shared}
open Classical in
noncomputable def ww (K:W.Frag)(G:Hp)(ds:List D)(dx:D)(u:Value):Bool:=decide (∃ d x,d∈ds∧Rep K G d x∧RelV x u∧bR d dx=true)
theorem fT (I:Inv X pins σ H s)(hs:Same G H){ds:List D}{dx d:D}{x:V}{u:Value}(hp:plL 19 ds=true)(hd:d∈ds)(rx:Rep X.K G d x)(ru:RelV x u):ww X.K G ds dx u=bR d dx:=by
 unfold ww
 cases e:bR d dx with
 | true=>exact @decide_eq_true _ (Classical.propDecidable _) (kR d x hd rx ru e)
 | false=>
  refine @decide_eq_false _ (Classical.propDecidable _) fun hZ108=> ?_
  refine nZ (hZ108) fun d' x' hd' rx' ru' e'=> ?_
  have hx:x'=x:=RelV.inj ru' ru
  subst hx
  rw [Rep.inj I hs (dh hp hd') (dh hp hd) rx' rx,e] at e'
  cases e'
theorem gF {ds:List D}{xs:List V}{us:List Value}{f:Value→Bool}{g:D→Bool}:RepL X.K G ds xs→Vals xs us→(∀ d x u,d∈ds→Rep X.K G d x→RelV x u→f u=g d)→us.any f=ds.any g:=by
 intro rd
 induction ds generalizing xs us with
 | nil=>intro r _; rw [rd.inv0] at r; cases r; rfl
 | cons d ds ih=>
  intro r h
  refine bp (rd.inv) fun v q hS79 a b=> ?_; subst hS79
  cases r with
  | cons r1 r2=>
   rw [List.any_cons,List.any_cons,h d v _ List.mem_cons_self a r1,ih b r2 fun d' x' u' hm=>h d' x' u' (cI hm)]
noncomputable def kC (neg:Bool)(d e:D):Res D:=match e with
 | .lst l=>if plL 19 l=true∧aZ 19 d=true then .ok (.bl (if neg then !(l.any fun y=>bR y d) else l.any fun y=>bR y d)) else .bad
 | .tup l=>if plL 19 l=true∧aZ 19 d=true then .ok (.bl (if neg then !(l.any fun y=>bR y d) else l.any fun y=>bR y d)) else .bad
 | _=> .bad
theorem j6 {ds:List D}{xs:List V}{us:List Value}{u:Value}(rd:RepL X.K G ds xs)(r:Vals xs us)(hu:u∈us):∃ d x,d∈ds∧Rep X.K G d x∧RelV x u:=by
 induction ds generalizing xs us with
 | nil=>rw [rd.inv0] at r; cases r; cases hu
 | cons d ds ih=>
  refine bp (rd.inv) fun v q hS80 a b=> ?_; subst hS80
  cases r with
  | cons r1 r2=>
   rcases List.mem_cons.mp hu with rfl | hu
   ·exact (du d v List.mem_cons_self a r1)
   ·refine bp (ih b r2 hu) fun d' x' h1 h2 h3=> ?_
    exact (du d' x' (cI h1) h2 h3)
theorem wK (hu:X.A.units+64 < cLine):DOp X E (compareOp .In) (kC false):=by
 intro pins s σ G H x y C dy v u I j rx ry rv ru ok
 unfold kC at ok ⊢
 cases dy with
 | lst l=>
  dsimp only at ok ⊢
  by_cases h:plL 19 l=true∧aZ 19 C=true
  ·rw [if_pos h]
   rw [rep_lst] at ry
   refine bp (ry) fun a xs hS81 sq rl=> ?_; subst hS81
   cases (show u= .ref a from ru)
   obtain ⟨its,r,p⟩:=I.isLst (j.seq sq.sq)
   refine in_listAt (ww X.K G l C) p (fun w hw=> ?_) ?_
   ·refine bp (j6 rl r (by simpa using hw)) fun d z h1 t D=> ?_
    rw [fT I j h.1 h1 t D]
    exact (mx I j 19 19 d C z x w v X.A.in1 (dh h.1 h1) h.2 t rx D rv (by show X.A.units+1+19 < cLine; omega)).1
   ·have e1:its.toArray.any (ww X.K G l C)=l.any fun y=>bR y C:=by
     rw [List.any_toArray]
     exact gF rl r fun d z w hm t D=>fT I j h.1 hm t D
    rw [e1]
    exact ⟨_,rfl,.bl (l.any fun y=>bR y C),G,H,I,rfl,.refl j,rep_bl.mpr rfl⟩
  ·rw [if_neg h] at ok; exact ok.elim
 | tup l=>
  dsimp only at ok ⊢
  by_cases h:plL 19 l=true∧aZ 19 C=true
  ·rw [if_pos h]
   rw [rep_tup] at ry
   refine bp (ry) fun a xs hS82 sq rl=> ?_; subst hS82
   cases (show u= .ref a from ru)
   obtain ⟨its,r,p⟩:=I.isTup (j.seqT sq.sq)
   refine in_tupleAt (ww X.K G l C) p (fun w hw=> ?_) ?_
   ·refine bp (j6 rl r (by simpa using hw)) fun d z h1 t D=> ?_
    rw [fT I j h.1 h1 t D]
    exact (mx I j 19 19 d C z x w v X.A.in1 (dh h.1 h1) h.2 t rx D rv (by show X.A.units+1+19 < cLine; omega)).1
   ·have e1:its.toArray.any (ww X.K G l C)=l.any fun y=>bR y C:=by
     rw [List.any_toArray]
     exact gF rl r fun d z w hm t D=>fT I j h.1 hm t D
    rw [e1]
    exact ⟨_,rfl,.bl (l.any fun y=>bR y C),G,H,I,rfl,.refl j,rep_bl.mpr rfl⟩
  ·rw [if_neg h] at ok; exact ok.elim
 | _=>exact ok.elim
theorem jT (hu:X.A.units+64 < cLine):DOp X E (compareOp .NotIn) (kC true):=by
 intro pins s σ G H x y C dy v u I j rx ry rv ru ok
 unfold kC at ok ⊢
 cases dy with
 | lst l=>
  dsimp only at ok ⊢
  by_cases h:plL 19 l=true∧aZ 19 C=true
  ·rw [if_pos h]
   rw [rep_lst] at ry
   refine bp (ry) fun a xs hS83 sq rl=> ?_; subst hS83
   cases (show u= .ref a from ru)
   obtain ⟨its,r,p⟩:=I.isLst (j.seq sq.sq)
   refine notIn_listAt (ww X.K G l C) p (fun w hw=> ?_) ?_
   ·refine bp (j6 rl r (by simpa using hw)) fun d z h1 t D=> ?_
    rw [fT I j h.1 h1 t D]
    exact (mx I j 19 19 d C z x w v X.A.in1 (dh h.1 h1) h.2 t rx D rv (by show X.A.units+1+19 < cLine; omega)).1
   ·have e1:its.toArray.any (ww X.K G l C)=l.any fun y=>bR y C:=by
     rw [List.any_toArray]
     exact gF rl r fun d z w hm t D=>fT I j h.1 hm t D
    rw [e1]
    exact ⟨_,rfl,.bl (!(l.any fun y=>bR y C)),G,H,I,rfl,.refl j,rep_bl.mpr rfl⟩
  ·rw [if_neg h] at ok; exact ok.elim
 | tup l=>
  dsimp only at ok ⊢
  by_cases h:plL 19 l=true∧aZ 19 C=true
  ·rw [if_pos h]
   rw [rep_tup] at ry
   refine bp (ry) fun a xs hS84 sq rl=> ?_; subst hS84
   cases (show u= .ref a from ru)
   obtain ⟨its,r,p⟩:=I.isTup (j.seqT sq.sq)
   refine notIn_tupleAt (ww X.K G l C) p (fun w hw=> ?_) ?_
   ·refine bp (j6 rl r (by simpa using hw)) fun d z h1 t D=> ?_
    rw [fT I j h.1 h1 t D]
    exact (mx I j 19 19 d C z x w v X.A.in1 (dh h.1 h1) h.2 t rx D rv (by show X.A.units+1+19 < cLine; omega)).1
   ·have e1:its.toArray.any (ww X.K G l C)=l.any fun y=>bR y C:=by
     rw [List.any_toArray]
     exact gF rl r fun d z w hm t D=>fT I j h.1 hm t D
    rw [e1]
    exact ⟨_,rfl,.bl (!(l.any fun y=>bR y C)),G,H,I,rfl,.refl j,rep_bl.mpr rfl⟩
  ·rw [if_neg h] at ok; exact ok.elim
 | _=>exact ok.elim
end
end L2
namespace L2
open PySem PySem.Spec PyProof.Rows
noncomputable def yR (K:W.Frag)(J:It)(ds:List D)(G:Hp):Prop:=∀ (G2 H2:Hp),Same G G2→Same G2 H2→∀ (i:Nat),
 (∀ d,ds[i]?=some d→J.go i H2∧∀ x H',J.yld i H2 x H'→∃ G',Ext G2 H2 G' H'∧Rep K G' d x)∧(ds.length≤i→J.stop i H2)
inductive tDI (K:W.Frag)(E:XK)(fi:DS→Res (List D))(σ:St)(H:Hp)(R:It→Hp→Prop):Prop
 | mk (G:Hp) (ρ:DS) (s:Same G H) (r:Ro K G σ ρ) (o:OkR E H (fi ρ)) (k:∀ ds,fi ρ= .ok ds→∀ J G' H',Ext G H G' H'→yR K J ds G'→R J H')
section
variable{X:Cx}{E:XK}{tg:Expr}
noncomputable def AE:D→Res (List D)
 | .lst l=> .ok l
 | _=> .bad
noncomputable def Du:D→Res (List D)
 | .tup l=> .ok l
 | _=> .bad
theorem yw {K:W.Frag}{G:Hp}{a:Addr}{xs:List V}{ds:List D}(sq:gs K G a xs)(rl:RepL K G ds xs):yR K (FY K a) ds G:=by
 intro G2 H2 g1 g2 i
 have sq2:gs K H2 a xs:=g2.seq (g1.seq sq)
 refine ⟨fun d hd=> ?_,fun hl=>⟨xs,sq2,by rw [← rl.length]; exact hl⟩⟩
 obtain ⟨v,hv,rv⟩:=rl.get hd
 refine ⟨(kQ xs v sq2 hv),fun y H' hZ109=> ?_⟩
 obtain ⟨e,h⟩:=hZ109
 subst e
 have q:=h xs sq2
 rw [hv] at q; cases q
 exact ⟨G2,.refl g2,rv.mono g1⟩
theorem AI {K:W.Frag}{G:Hp}{a:Addr}{xs:List V}{ds:List D}(sq:lL K G a xs)(rl:RepL K G ds xs):yR K (FZ K a) ds G:=by
 intro G2 H2 g1 g2 i
 have sq2:lL K H2 a xs:=g2.seqT (g1.seqT sq)
 refine ⟨fun d hd=> ?_,fun hl=>⟨xs,sq2,by rw [← rl.length]; exact hl⟩⟩
 obtain ⟨v,hv,rv⟩:=rl.get hd
 refine ⟨(kQ xs v sq2 hv),fun y H' hZ110=> ?_⟩
 obtain ⟨e,h⟩:=hZ110
 subst e
 have q:=h xs sq2
 rw [hv] at q; cases q
 exact ⟨G2,.refl g2,rv.mono g1⟩
noncomputable def nk (lo:Int)(n:Nat):List D:=(List.range n).map fun (i:Nat)=>D.int (lo+(i:Int))
theorem lc {K:W.Frag}{G:Hp}(lo:Int)(n:Nat):yR K (DL lo n) (nk lo n) G:=by
 intro G2 H2 g1 g2 i
 refine ⟨fun d hd=> ?_,fun hl=>(show n≤i by simpa [nk] using hl)⟩
 unfold nk at hd
 rw [List.getElem?_map] at hd
 cases e:(List.range n)[i]? with
 | none=>rw [e] at hd; cases hd
 | some j=>
  rw [e] at hd
  obtain ⟨hj,rfl⟩:=fG e
  cases hd
  have hi:i < n:=by simpa using hj
  refine ⟨hi,fun y H' hZ111=> ?_⟩
  obtain ⟨e1,e2⟩:=hZ111
  subst e1 e2
  refine ⟨G2,.refl g2,rep_int.mpr ?_⟩
  rw [List.getElem_range]
theorem aU {e:Expr}{f:DS→Res D}(h:PD X E e f):PI X tg e (tDI X.K E (fun ρ=>(f ρ).bind AE)):=by
 intro pins s σ H R I hZ5
 obtain ⟨G,ρ,hs,hro,ho,k⟩:=hZ5
 refine Ah (dR h) pins s σ H R I ⟨G,ρ,hs,hro,ho.fst,fun d e v G1 H1 x1 p1=> ?_⟩
 have kk:=ho.snd e x1.hh
 cases d with
 | lst l=>
  rw [rep_lst] at p1
  refine bp (p1) fun a xs hS85 sq rl=> ?_; subst hS85
  exact (ik a rfl ⟨xs,x1.gh.seq sq.sq⟩ (k l (aq e rfl) (FY X.K a) G1 H1 x1 (yw sq.sq rl)))
 | _=>exact kk.elim
theorem Af {e:Expr}{f:DS→Res D}(h:PD X E e f):PI X tg e (tDI X.K E (fun ρ=>(f ρ).bind Du)):=by
 intro pins s σ H R I hZ6
 obtain ⟨G,ρ,hs,hro,ho,k⟩:=hZ6
 refine Dc (dR h) pins s σ H R I ⟨G,ρ,hs,hro,ho.fst,fun d e v G1 H1 x1 p1=> ?_⟩
 have kk:=ho.snd e x1.hh
 cases d with
 | tup l=>
  rw [rep_tup] at p1
  refine bp (p1) fun a xs hS86 sq rl=> ?_; subst hS86
  exact (ik a rfl ⟨xs,x1.gh.seqT sq⟩ (k l (aq e rfl) (FZ X.K a) G1 H1 x1 (AI sq rl)))
 | _=>exact kk.elim
noncomputable def cM (i:Int):Bool:=decide (-(2 ^ 62)≤i) && decide (i < 2 ^ 62)
noncomputable def tF:List D→Res (List D)
 | [.int j]=>if cM j=true then .ok (nk 0 j.toNat) else .bad
 | _=> .bad
noncomputable def yi:List D→Res (List D)
 | [.int i,.int j]=>if (cM i && cM j)=true then .ok (nk i (j - i).toNat) else .bad
 | _=> .bad
theorem eZ {a:Expr}{p pos:Pos}{fs:DS→Res (List D)}(hg:Gl X "range")(hm:X.mg "range" =none)(ha:lI X E [a] fs)(hs:starEach [a] X.env=[(false,eval a X.env)]:=by rfl):PI X tg (.Call (.Name "range" p) [a] [] pos) (tDI X.K E (fun ρ=>(fs ρ).bind tF)):=by
 intro pins s σ H R I hZ7
 obtain ⟨G,ρ,hsm,hro,ho,k⟩:=hZ7
 refine oR hg hm (iO ha) hs pins s σ H R I ⟨G,ρ,hsm,hro,ho.fst,fun ds e vs G1 H1 x1 p1=> ?_⟩
 have kk:=ho.snd e x1.hh
 unfold tF at kk
 split at kk
 ·rename_i j
  refine bp (p1.inv) fun v r hS87 rv r0=> ?_; subst hS87
  rw [r0.inv0]
  rw [rep_int] at rv; subst rv
  by_cases hj:cM j=true
  ·have hj':=hj
   unfold cM at hj'
   rw [Bool.and_eq_true] at hj'
   exact (zH j rfl (of_decide_eq_true hj'.1) (of_decide_eq_true hj'.2) (k _ (aq e (if_pos hj)) _ G1 H1 x1 (lc 0 j.toNat)))
  ·rw [if_neg hj] at kk; exact kk.elim
 ·exact kk.elim
theorem m9 {a b:Expr}{p pos:Pos}{fs:DS→Res (List D)}(hg:Gl X "range")(hm:X.mg "range" =none)(ha:lI X E [a,b] fs)(hs:starEach [a,b] X.env=[(false,eval a X.env),(false,eval b X.env)]:=by rfl)(hs2:starEach [b] X.env=[(false,eval b X.env)]:=by rfl):PI X tg (.Call (.Name "range" p) [a,b] [] pos) (tDI X.K E (fun ρ=>(fs ρ).bind yi)):=by
 intro pins s σ H R I hZ8
 obtain ⟨G,ρ,hsm,hro,ho,k⟩:=hZ8
 refine v8 hg hm (iO ha) hs hs2 pins s σ H R I ⟨G,ρ,hsm,hro,ho.fst,fun ds e vs G1 H1 x1 p1=> ?_⟩
 have kk:=ho.snd e x1.hh
 unfold yi at kk
 split at kk
 ·rename_i i j
  refine cps fun PP kP=> ?_
  refine bp (p1.inv) fun v r hS88 rv r0=> ?_; subst hS88
  refine bp (r0.inv) fun v2 r2 hS89 rv2 r02=> ?_; subst hS89
  refine kP ?_; clear kP PP
  rw [r02.inv0]
  rw [rep_int] at rv rv2; subst rv rv2
  by_cases hj:(cM i && cM j)=true
  ·have hj':=hj
   unfold cM at hj'
   rw [Bool.and_eq_true,Bool.and_eq_true,Bool.and_eq_true] at hj'
   exact (du i j rfl (nH (of_decide_eq_true hj'.1.1) (of_decide_eq_true hj'.1.2) (of_decide_eq_true hj'.2.1) (of_decide_eq_true hj'.2.2)) (k _ (aq e (if_pos hj)) _ G1 H1 x1 (lc i (j - i).toNat)))
  ·rw [if_neg hj] at kk; exact kk.elim
 ·exact kk.elim
noncomputable def bq (t:D→Res Bool)(f:D→Res D):List D→Res (List D)
 | []=> .ok []
 | d :: ds=>match t d with
  | .ok true=>(match f d with
   | .ok e=>(bq t f ds).bind fun es=> .ok (e :: es)
   | _=> .bad)
  | .ok false=>bq t f ds
  | _=> .bad
theorem kM {t:D→Res Bool}{f:D→Res D}:∀ {as bs es:List D},bq t f (as ++ bs)= .ok es→∃ e1 e2,bq t f as= .ok e1∧bq t f bs= .ok e2∧es=e1 ++ e2
 | [],bs,es,h=>(du ([]) es rfl h rfl)
 | a :: as,bs,es,h=>by
  rw [List.cons_append] at h
  unfold bq at h
  cases ht:t a with
  | bad=>rw [ht] at h; cases h
  | exc c=>rw [ht] at h; cases h
  | ok b=>
   rw [ht] at h
   cases b with
   | false=>
    refine bp (kM h) fun e1 e2 h1 h2 h3=> ?_
    exact (du e1 e2 (by unfold bq; rw [ht]; exact h1) h2 h3)
   | true=>
    cases hf:f a with
    | bad=>rw [hf] at h; cases h
    | exc c=>rw [hf] at h; cases h
    | ok e=>
     rw [hf] at h
     dsimp only at h
     cases hr:bq t f (as ++ bs) with
     | bad=>rw [hr] at h; cases h
     | exc c=>rw [hr] at h; cases h
     | ok es'=>
      rw [hr] at h
      have h':Res.ok (e :: es')=Res.ok es:=h
      cases h'
      refine bp (kM hr) fun e1 e2 h1 h2 h3=> ?_
      subst h3
      exact (du (e :: e1) e2 (by unfold bq; rw [ht,hf]; dsimp only; rw [h1]; rfl) h2 rfl)
theorem kO {t:D→Res Bool}{f:D→Res D}:∀ {as es:List D},bq t f as= .ok es→es.length≤as.length
 | [],es,h=>by unfold bq at h; cases h; exact Nat.le_refl _
 | a :: as,es,h=>by
  unfold bq at h
  cases ht:t a with
  | bad=>rw [ht] at h; cases h
  | exc c=>rw [ht] at h; cases h
  | ok b=>
   rw [ht] at h
   cases b with
   | false=>exact Nat.le_succ_of_le (kO h)
   | true=>
    cases hf:f a with
    | bad=>rw [hf] at h; cases h
    | exc c=>rw [hf] at h; cases h
    | ok e=>
     rw [hf] at h
     dsimp only at h
     cases hr:bq t f as with
     | bad=>rw [hr] at h; cases h
     | exc c=>rw [hr] at h; cases h
     | ok es'=>
      rw [hr] at h
      have h':Res.ok (e :: es')=Res.ok es:=h
      cases h'
      have:=kO hr
      rw [List.length_cons,List.length_cons]; omega
noncomputable def c_ (caps:List (Option Nat))(ρ:DS):DS:=caps.map fun o=>o.bind fun k=>(ρ[k]?).join
theorem yY {K:W.Frag}{G:Hp}{σ:St}{ρ:DS}{caps:List (Option Nat)}(h:Ro K G σ ρ):Ro K G (eO caps σ) (c_ caps ρ):=by
 intro i d e
 unfold c_ at e
 rw [List.getElem?_map] at e
 unfold eO
 rw [List.getElem?_map]
 cases q:caps[i]? with
 | none=>rw [q] at e; cases e
 | some o=>
  rw [q] at e
  cases o with
  | none=>simp at e
  | some k=>
   simp only [Option.map_some,Option.bind_some,Option.some.injEq] at e ⊢
   cases q2:ρ[k]? with
   | none=>rw [q2] at e; simp at e
   | some o2=>
    rw [q2] at e
    simp at e
    subst e
    obtain ⟨v,hv,rv⟩:=h k d q2
    exact ⟨v,by rw [hv]; rfl,rv⟩
theorem Ro.set {K:W.Frag}{G:Hp}{σ:St}{ρ:DS}{j:Nat}{v:V}{d:D}(h:Ro K G σ ρ)(hj:j < σ.length)(r:Rep K G d v):Ro K G (σ.set j (some v)) (ρ.set j (some d)):=by
 intro i e q
 by_cases hi:i=j
 ·subst hi
  by_cases hl:i < ρ.length
  ·rw [List.getElem?_set_self hl] at q
   cases q
   exact ⟨v,List.getElem?_set_self hj,r⟩
  ·rw [List.getElem?_eq_none (by simpa using hl)] at q
   cases q
 ·rw [List.getElem?_set_ne (Ne.symm hi)] at q ⊢
  exact h i e q
noncomputable abbrev pe:XK:=fun _ _ _=>False
noncomputable def u_ (X:Cx)(E:XK)(ifs:List Expr)(f:DS→Res Bool):Prop:=DH X ifs (tDT X.K E f)
theorem aQ:u_ X E [] (fun _=> .ok true):=fun pins s σ H Q I hZ112=>(by obtain ⟨G,ρ,hs,hr,ho,k⟩:=hZ112; exact Ai pins s σ H Q I (k true rfl G H (.refl hs)))
theorem eX {c:Expr}{f:DS→Res Bool}(h:va X E c f):u_ X E [c] f:=Aj (GU h)
end
section
variable{X:Cx}{E:XK}
noncomputable def allInts:List D→Option (List Int)
 | []=>some []
 | .int i :: ds=>(allInts ds).map (i :: ·)
 | _=>none
theorem gE:∀ {ds:List D} {ns:List Int},allInts ds=some ns→ds=ns.map D.int
 | [],ns,h=>by unfold allInts at h; cases h; rfl
 | d :: ds,ns,h=>by
  cases d with
  | int i=>
   unfold allInts at h
   cases q:allInts ds with
   | none=>rw [q] at h; cases h
   | some ms=>rw [q] at h; cases h; rw [gE q]; rfl
  | _=>unfold allInts at h; cases h
theorem fz:∀ (ns:List Int),allInts (ns.map D.int)=some ns
 | []=>rfl
 | n :: ns=>by show (allInts (ns.map D.int)).map (n :: ·)=_; rw [fz ns]; rfl
noncomputable def GR:List Int→Int
 | []=>0
 | [a]=>a
 | a :: as=>min a (GR as)
noncomputable def je:List Int→Int
 | []=>0
 | [a]=>a
 | a :: as=>max a (je as)
theorem i7:∀ {ns:List Int},ns≠[]→je ns∈ns∧∀ a∈ns,a≤je ns
 | [],h=>absurd rfl h
 | [a],_=>⟨List.mem_singleton.mpr rfl,fun b hb=>by rw [List.mem_singleton.mp hb]; exact Int.le_refl _⟩
 | a :: b :: r,_=>by
  obtain ⟨h1,h2⟩:=i7 (ns:=b :: r) (by simp)
  show max a (je (b :: r))∈_∧_
  refine ⟨?_,fun c hc=> ?_⟩
  ·by_cases h:je (b :: r)≤a
   ·rw [Int.max_eq_left h]; exact List.mem_cons_self
   ·rw [Int.max_eq_right (by omega)]; exact cI h1
  ·show c≤max a (je (b :: r))
   rcases List.mem_cons.mp hc with rfl | hc
   ·exact Int.le_max_left _ _
   ·exact Int.le_trans (h2 c hc) (Int.le_max_right _ _)
noncomputable def nO:List D→Res D
 | [.lst l]=>match allInts l with | some (n :: ns)=> .ok (.int (je (n :: ns))) | _=> .bad
 | _=> .bad
theorem ve (hc:X.calm=true):eD X (.builtin "max") (fun xs H Q=>∃ p ns,xs=[.ref p]∧gs X.K H p (ns.map V.int)∧ns≠[]∧Q (.int (je ns)) H):=by
 intro pins s σ H xs us Q I r h
 refine cps fun PP kP=> ?_
 refine nZ (h) fun p ns hS90 sq hne q=> ?_; subst hS90
 obtain ⟨u,rfl,ru⟩:=kz r
 refine kP ?_; clear kP PP
 cases (show u= .ref p from ru)
 refine cw (I.list sq) fun its rv pl _=> ?_
 have hi:=gQ rv
 obtain ⟨ys,e⟩:=hi.allInts.items
 have E:ns=ys.toList.map (·.1):=by rw [← hi.numsOf,← nums_intItems,← e]
 have hsz:0 < ys.size:=by
  have h3:0 < ns.length:=List.length_pos_iff.mpr hne
  rw [E,List.length_map,Array.length_toList] at h3; exact h3
 have hl:=pl.isList
 rw [e] at hl
 refine max_intList (I.ok.hd hc) hl hsz fun v h' tk hv hk=> ?_
 obtain ⟨t,rfl⟩:=intItems_at hv
 obtain ⟨h1,h2⟩:=argBest_gt (numAt ys) (ys.size - 1)
 have hm:numAt ys (argBest (fun i j=>decide (numAt ys i > numAt ys j)) (ys.size - 1))=je ns:=by
  obtain ⟨m1,m2⟩:=i7 hne
  refine Int.le_antisymm (m2 _ ?_) ?_
  ·rw [E,numAt_eq]; exact getD_mem (by rw [List.length_map,Array.length_toList]; omega)
  ·rw [E] at m1
   obtain ⟨j,hj,ej⟩:=mem_getD m1
   rw [List.length_map,Array.length_toList] at hj
   rw [← E] at ej
   rw [← ej,E,← numAt_eq]; exact h2 j (by omega)
 rw [hm]
 exact ⟨.int (je ns),H,I.kept hk,⟨t,rfl⟩,q⟩
theorem y6 {K:W.Frag}:AX K E (fun xs H Q=>∃ p ns,xs=[.ref p]∧gs K H p (ns.map V.int)∧ns≠[]∧Q (.int (je ns)) H) nO:=by
 intro G H vs ds Q hs rl ok k
 unfold nO at ok k
 split at ok
 ·rename_i l
  obtain ⟨v,r,rfl,rx,r0⟩:=rl.inv
  rw [r0.inv0]
  rw [rep_lst] at rx
  obtain ⟨p,xs,rfl,sq,rx⟩:=rx
  dsimp only at k
  cases q:allInts l with
  | none=>rw [q] at ok; exact ok.elim
  | some ns=>
   cases ns with
   | nil=>rw [q] at ok; exact ok.elim
   | cons n ns=>
    rw [q] at k
    have e:=gE q
    subst e
    have ex:=rx.ints
    subst ex
    exact ⟨p,n :: ns,rfl,hs.seq sq.sq,by simp,k _ _ G H rfl (.refl hs) (rep_int.mpr rfl)⟩
 ·exact ok.elim
noncomputable def qn (hi:Int)(n:Nat):List D:=(List.range n).map fun (i:Nat)=>D.int (hi - (i:Int))
theorem nK {a b c:Int}{t u v:Tok}{n:Nat}{r:Addr}{pins:List (Addr×Obj)}{σ:St}{H:Hp}{s:Shared}{Q:VK}(hc:X.calm=true)(I:Inv X pins σ H s)(hr:IsRange s.heap r a b c t u v)(hsm:Builtin.Range.small a b c=true)(hn:Builtin.Range.rangeSize a b c=n)(hz:n≤100000)
  (q:∀ p,H p=none→Q (.ref p) (bg H p (.lst ((List.range n).map fun (i:Nat)=>V.int (a+(i:Int) * c))))):wpAny (model X.prog X.w) X.A (call (.type "list") [.ref r]) (EP X pins σ Q) X.xe s:=by
 refine call_list_range (I.ok.hd hc) hr hsm hn (Nat.le_trans hz (by decide)) fun h' tk acc c' hk hD hI=> ?_
 obtain ⟨h1,h2⟩:=hI
 have hv:Vals ((List.range n).map fun (i:Nat)=>V.int (a+(i:Int) * c)) acc.toList:=by
  have aux:∀ (m:Nat) (f:Nat→V) (l:List Value),l.length=m→(∀ j u,l[j]?=some u→RelV (f j) u)→Vals ((List.range m).map f) l:=by
   intro m
   induction m with
   | zero=>
    intro f l hl _
    cases l with
    | nil=>exact .nil
    | cons x xs=>simp at hl
   | succ m ih=>
    intro f l hl h
    cases l with
    | nil=>simp at hl
    | cons x xs=>
     rw [List.range_succ_eq_map,List.map_cons,List.map_map]
     exact .cons (h 0 x rfl) (ih (f ∘ Nat.succ) xs (by simpa using hl) fun j u e=>h (j+1) u (by simpa using e))
  refine aux n _ acc.toList (by simpa using h1) fun j u e=> ?_
  obtain ⟨t',rfl⟩:=h2 j u (by simpa using e)
  exact ⟨t',rfl⟩
 refine ⟨.ref s.heap.objs.size,_,I.laid (o:= .lst ((List.range n).map fun (i:Nat)=>V.int (a+(i:Int) * c))) hk (Nat.le_refl _) (mL ?_ acc.toList c' hv ?_),rfl,q _ (I.hok.fresh (Nat.le_refl _))⟩
 ·rw [List.length_map,List.length_range]
  exact Nat.le_trans hz (by decide)
 ·rw [hD]
theorem iG {i:Int}(h1: -(2 ^ 62)≤i)(h2:i≤2 ^ 62):Builtin.Range.rangeFitsLong i=true:=by
 unfold Builtin.Range.rangeFitsLong
 simp only [Bool.and_eq_true,decide_eq_true_eq]
 omega
theorem oS {a b:Int}:Builtin.Range.rangeSize a b (-1)=((a - b).toNat:Int):=by
 unfold Builtin.Range.rangeSize
 rw [if_neg (by decide)]
 split
 ·have:(-(-1:Int))=1:=by decide
  rw [this,Int.ediv_one]; omega
 ·omega
theorem oT {a b c:Int}(h1: -(2 ^ 60)≤a)(h2:a < 2 ^ 60)(h3: -(2 ^ 60)≤b)(h4:b < 2 ^ 60)(hc:c=1∨c= -1):Builtin.Range.small a b c=true:=by
 rcases hc with rfl | rfl
 ·exact small_one (by omega) (by omega) (by omega) (by omega)
 ·unfold Builtin.Range.small
  rw [oS,iG (i:=a) (by omega) (by omega),iG (i:=b) (by omega) (by omega),iG (i:= -1) (by decide) (by decide),iG (i:=((a - b).toNat:Int)) (by omega) (by omega)]
  rw [if_neg (by decide),iG (i:=b+(-1+1)) (by omega) (by omega)]
  simp
noncomputable def sk (p:Addr)(a b c:Int):HO:= .ext fun h=>∃ t u v,IsRange h p a b c t u v
theorem Inv.rng {pins:List (Addr×Obj)}{σ:St}{H:Hp}{s:Shared}{a b c:Int}{t u v:Tok}{tk:Nat}(I:Inv X pins σ H s):Inv X pins σ (bg H s.heap.objs.size (sk s.heap.objs.size a b c)) { s with heap:=s.heap.push { cls:= .type "range",data:= .fields #[.int a t,.int b u,.int c v] },toks:=tk }:=
 I.laid (fun b o e=>Heap.get?_push_of_some _ e) (Nat.le_refl _) ⟨⟨t,u,v,Heap.get?_push_size _ rfl⟩,⟨_,Heap.get?_push_size _ rfl⟩,fun h1 h2 ⟨t,u,v,e⟩ k=>⟨t,u,v,k _ e⟩⟩
theorem qE:eD X (.type "range") (fun xs H Q=>∃ i j,xs=[.int i,.int j]∧∀ p,H p=none→Q (.ref p) (bg H p (sk p i j 1))):=by
 intro pins s σ H xs us Q I r h
 refine cps fun PP kP=> ?_
 refine lh (h) fun i j hS91 q=> ?_; subst hS91
 refine bp (FQ r) fun u1 u2 hS92 hS93 hS94=> ?_; subst hS92; obtain ⟨t1,rfl⟩:=hS93; obtain ⟨t2,rfl⟩:=hS94
 refine kP ?_; clear kP PP
 exact call_range_2 ⟨.ref s.heap.objs.size,_,I.rng,rfl,q _ (I.hok.fresh (Nat.le_refl _))⟩
theorem FR {x y z:V}{us:List Value}(r:Vals [x,y,z] us):∃ u v w,us=[u,v,w]∧RelV x u∧RelV y v∧RelV z w:=by
 cases r with
 | cons a b=>cases b with
  | cons c d=>cases d with
   | cons e f=>cases f; exact (jh _ _ _ rfl a c e)
theorem qF:eD X (.type "range") (fun xs H Q=>∃ i j,xs=[.int i,.int j,.int (-1)]∧∀ p,H p=none→Q (.ref p) (bg H p (sk p i j (-1)))):=by
 intro pins s σ H xs us Q I r h
 refine cps fun PP kP=> ?_
 refine lh (h) fun i j hS95 q=> ?_; subst hS95
 refine jd (FR r) fun u1 u2 u3 hS96 hS97 hS98 hS99=> ?_; subst hS96; obtain ⟨t1,rfl⟩:=hS97; obtain ⟨t2,rfl⟩:=hS98; obtain ⟨t3,rfl⟩:=hS99
 refine kP ?_; clear kP PP
 exact call_range_3 (by decide) ⟨.ref s.heap.objs.size,_,I.rng (tk:=s.toks),rfl,q _ (I.hok.fresh (Nat.le_refl _))⟩ (.inl (PyProof.noPylong_small (by decide)))
theorem jP (hc:X.calm=true):eD X (.type "list") (fun xs H Q=>∃ p a b c n,xs=[.ref p]∧H p=some (sk p a b c)∧Builtin.Range.small a b c=true∧Builtin.Range.rangeSize a b c=((n:Nat):Int)∧n≤100000∧∀ l,H l=none→Q (.ref l) (bg H l (.lst ((List.range n).map fun (i:Nat)=>V.int (a+(i:Int) * c))))):=by
 intro pins s σ H xs us Q I r h
 refine cps fun PP kP=> ?_
 refine DF (h) fun p a b c n hS100 hp hsm hn hz q=> ?_; subst hS100
 obtain ⟨u,rfl,ru⟩:=kz r
 refine kP ?_; clear kP PP
 cases (show u= .ref p from ru)
 obtain ⟨⟨t,u,v,e⟩,_,_⟩:=(show ObjOk X.prog X.w H s.heap p (sk p a b c) from I.hok p _ hp)
 exact nK hc I e hsm hn hz q
noncomputable def il (i:Int):Bool:=decide (-(2 ^ 60)≤i) && decide (i < 2 ^ 60)
noncomputable def oG:List D→Res D
 | [.int i,.int j]=>if (il i && il j && aL (j - i).toNat)=true then .ok (.lst (nk i (j - i).toNat)) else .bad
 | _=> .bad
noncomputable def oH:List D→Res D
 | [.int i,.int j,.int k]=>if (il i && il j && aL (i - j).toNat && decide (k= -1))=true then .ok (.lst (qn i (i - j).toNat)) else .bad
 | _=> .bad
theorem ni {K:W.Frag}{G:Hp}{f:Nat→D}{g:Nat→V}(h:∀ i,Rep K G (f i) (g i)):∀ (l:List Nat),RepL K G (l.map f) (l.map g)
 | []=> .nil
 | a :: r=> .cons (h a) (ni h r)
theorem s_ {a b:Expr}{p1 p2 pos1 pos2:Pos}{fs:DS→Res (List D)}(hc:X.calm=true)(hgl:Gl X "list")(hml:X.mg "list" =none)(hg:Gl X "range")(hm:X.mg "range" =none)(ha:lI X E [a,b] fs)
  (hs:starEach [a,b] X.env=(false,eval a X.env) :: starEach [b] X.env:=by rfl) (hpl:(backTo pos2 (starEach [b] X.env)).any (·.1)=false:=by rfl)
  (hs3:starEach [.Call (.Name "range" p2) [a,b] [] pos2] X.env=(false,eval (.Call (.Name "range" p2) [a,b] [] pos2) X.env) :: starEach [] X.env:=by rfl) :
  PD X E (.Call (.Name "list" p1) [.Call (.Name "range" p2) [a,b] [] pos2] [] pos1) (bx fs oG):=by
 intro pins s σ G H ρ I hsm hro ho
 have he:=eC (pos:=pos1) (p:=p1) (jP hc) hgl hml PyProof.Rows.boot_list (df (eC (pos:=pos2) (p:=p2) qE hg hm boot_range (iO ha) (by decide) (by decide) hs hpl) fV hs3) (by decide) (by decide) hs3 rfl
 refine aW (he pins s σ H (fun v H'=>∃ d G',bx fs oG ρ= .ok d∧Ext G H G' H'∧Rep X.K G' d v) I ?_) fun u s' hZ113=>(by obtain ⟨v,H',I',r,d,G',e,xx,rp⟩:=hZ113; exact ⟨d,e,v,G',H',I',r,xx,rp⟩)
 refine ⟨G,ρ,hsm,hro,ho.fst,fun ds e vs G1 H1 x1 p1=> ?_⟩
 have kk:=ho.snd e x1.hh
 unfold oG at kk
 split at kk
 ·rename_i i j
  refine cps fun PP kP=> ?_
  refine bp (p1.inv) fun v r hS101 rv r0=> ?_; subst hS101
  refine bp (r0.inv) fun v2 r2 hS102 rv2 r02=> ?_; subst hS102
  refine kP ?_; clear kP PP
  rw [r02.inv0]
  rw [rep_int] at rv rv2; subst rv rv2
  by_cases hj:(il i && il j && aL (j - i).toNat)=true
  ·have hj':=hj
   unfold il at hj'
   simp only [Bool.and_eq_true,decide_eq_true_eq] at hj'
   obtain ⟨⟨⟨a1,a2⟩,b1,b2⟩,l1⟩:=hj'
   refine (kQ i j rfl (fun p hp=>(Cq p i j 1 ((j - i).toNat) rfl ao (oT a1 a2 b1 b2 (.inl rfl)) (by rw [rangeSize_one]; split <;> omega) (of_decide_eq_true l1) (fun l hl=> ?_))))
   have x2:=x1.trans (Ext.new x1.gh hp (sk p i j 1))
   have x3:=x2.trans (Ext.new x2.gh hl (.lst ((List.range (j - i).toNat).map fun (k:Nat)=>V.int (i+(k:Int) * 1))))
   refine (du _ _ (aq e (if_pos hj)) x3 (rep_lst.mpr (du l _ rfl (.of ao) (ni (fun k=>rep_int.mpr (by rw [Int.mul_one])) _))))
  ·rw [if_neg hj] at kk; exact kk.elim
 ·exact kk.elim
theorem tf {a b c:Expr}{p1 p2 pos1 pos2:Pos}{fs:DS→Res (List D)}(hc:X.calm=true)(hgl:Gl X "list")(hml:X.mg "list" =none)(hg:Gl X "range")(hm:X.mg "range" =none)(ha:lI X E [a,b,c] fs)
  (hs:starEach [a,b,c] X.env=(false,eval a X.env) :: starEach [b,c] X.env:=by rfl) (hpl:(backTo pos2 (starEach [b,c] X.env)).any (·.1)=false:=by rfl)
  (hs3:starEach [.Call (.Name "range" p2) [a,b,c] [] pos2] X.env=(false,eval (.Call (.Name "range" p2) [a,b,c] [] pos2) X.env) :: starEach [] X.env:=by rfl) :
  PD X E (.Call (.Name "list" p1) [.Call (.Name "range" p2) [a,b,c] [] pos2] [] pos1) (bx fs oH):=by
 intro pins s σ G H ρ I hsm hro ho
 have he:=eC (pos:=pos1) (p:=p1) (jP hc) hgl hml PyProof.Rows.boot_list (df (eC (pos:=pos2) (p:=p2) qF hg hm boot_range (iO ha) (by decide) (by decide) hs hpl) fV hs3) (by decide) (by decide) hs3 rfl
 refine aW (he pins s σ H (fun v H'=>∃ d G',bx fs oH ρ= .ok d∧Ext G H G' H'∧Rep X.K G' d v) I ?_) fun u s' hZ114=>(by obtain ⟨v,H',I',r,d,G',e,xx,rp⟩:=hZ114; exact ⟨d,e,v,G',H',I',r,xx,rp⟩)
 refine ⟨G,ρ,hsm,hro,ho.fst,fun ds e vs G1 H1 x1 p1=> ?_⟩
 have kk:=ho.snd e x1.hh
 unfold oH at kk
 split at kk
 ·rename_i i j k
  refine cps fun PP kP=> ?_
  refine bp (p1.inv) fun v r hS103 rv r0=> ?_; subst hS103
  refine bp (r0.inv) fun v2 r2 hS104 rv2 r02=> ?_; subst hS104
  refine bp (r02.inv) fun v3 r3 hS105 rv3 r03=> ?_; subst hS105
  refine kP ?_; clear kP PP
  rw [r03.inv0]
  rw [rep_int] at rv rv2 rv3; subst rv rv2 rv3
  by_cases hj:(il i && il j && aL (i - j).toNat && decide (k= -1))=true
  ·have hj':=hj
   unfold il at hj'
   simp only [Bool.and_eq_true,decide_eq_true_eq] at hj'
   obtain ⟨⟨⟨⟨a1,a2⟩,b1,b2⟩,l1⟩,rfl⟩:=hj'
   refine ⟨i,j,rfl,fun p hp=>⟨p,i,j,-1,(i - j).toNat,rfl,ao,oT a1 a2 b1 b2 (.inr rfl),oS,of_decide_eq_true l1,fun l hl=> ?_⟩⟩
   have x2:=x1.trans (Ext.new x1.gh hp (sk p i j (-1)))
   have x3:=x2.trans (Ext.new x2.gh hl (.lst ((List.range (i - j).toNat).map fun (k:Nat)=>V.int (i+(k:Int) * (-1)))))
   refine (du _ _ (aq e (if_pos hj)) x3 (rep_lst.mpr (du l _ rfl (.of ao) (ni (fun k=>rep_int.mpr (by congr 1; omega)) _))))
  ·rw [if_neg hj] at kk; exact kk.elim
 ·exact kk.elim
noncomputable def sx (l:List D)(lo hi:Option Int):List D:=(l.drop (HT.cv l.length 0 lo)).take (HT.cv l.length l.length hi - HT.cv l.length 0 lo)
theorem pB {K:W.Frag}{G:Hp}{ds:List D}{xs:List V}(h:RepL K G ds xs)(lo hi:Option Int):RepL K G (sx ds lo hi) (qI xs lo hi):=by
 unfold sx qI
 rw [← h.length]
 exact (h.drop _).take _
noncomputable def fj (lo hi:Option Int):D→Res D
 | .lst l=> .ok (.lst (sx l lo hi))
 | .tup l=>if HT.cv l.length 0 lo=0∧HT.cv l.length l.length hi=l.length then .bad else .ok (.tup (sx l lo hi))
 | _=> .bad
inductive tPO (K:W.Frag)(E:XK)(f:DS→Res (Option Int))(σ:St)(H:Hp)(Q:Option Int→Hp→Prop):Prop
 | mk (G:Hp) (ρ:DS) (s:Same G H) (r:Ro K G σ ρ) (ok:OkR E H (f ρ)) (k:∀ o,f ρ= .ok o→∀ G' H',Ext G H G' H'→Q o H')
noncomputable def BA (X:Cx)(E:XK)(e:Option Expr)(f:DS→Res (Option Int)):Prop:=PO X e (tPO X.K E f)
theorem j_:BA X E none (fun _=> .ok none):=fun pins s σ H Q I hZ115=>(by obtain ⟨G,ρ,hs,hr,ho,k⟩:=hZ115; exact Ap pins s σ H Q I (k none rfl G H (.refl hs)))
noncomputable def Gs:D→Res (Option Int)
 | .int i=> .ok (some i)
 | _=> .bad
theorem ka {e:Expr}{f:DS→Res D}(h:PD X E e f):BA X E (some e) (fun ρ=>(f ρ).bind Gs):=by
 intro pins s σ H Q I hZ9
 obtain ⟨G,ρ,hs,hr,ho,k⟩:=hZ9
 refine Aq (dR h) pins s σ H Q I ⟨G,ρ,hs,hr,ho.fst,fun d e v G1 H1 x1 p1=> ?_⟩
 have kk:=ho.snd e x1.hh
 cases d with
 | int i=>rw [rep_int] at p1; exact ⟨i,p1,k (some i) (aq e rfl) G1 H1 x1⟩
 | _=>exact kk.elim
noncomputable def yO (f:DS→Res D)(lo hi:DS→Res (Option Int)):DS→Res D:=fun ρ=>(f ρ).bind fun d=>(lo ρ).bind fun l=>(hi ρ).bind fun u=>fj l u d
theorem m8 {e:Expr}{lo hi:Option Expr}{p2 pos:Pos}{f:DS→Res D}{fl fh:DS→Res (Option Int)}(he:PD X E e f)(hl:BA X E lo fl)(hh:BA X E hi fh):PD X E (.Subscript e (.Slice lo hi none p2) pos) (yO f fl fh):=by
 intro pins s σ G H ρ I hsm hro ho
 have hp:=rC (pos:=pos) (p2:=p2) (sl_list.or yr) (dR he) hl hh
 refine aW (hp pins s σ H (fun v H'=>∃ d G',yO f fl fh ρ= .ok d∧Ext G H G' H'∧Rep X.K G' d v) I ?_) fun u s' hZ116=>(by obtain ⟨v,H',I',r,d,G',e,xx,rp⟩:=hZ116; exact ⟨d,e,v,G',H',I',r,xx,rp⟩)
 refine ⟨G,ρ,hsm,hro,ho.fst,fun d e v G1 H1 x1 p1=> ?_⟩
 have k1:=ho.snd e x1.hh
 refine ⟨G1,ρ,x1.gh,hro.mono x1.gg,k1.fst,fun l el G2 H2 x2=> ?_⟩
 have k2:=k1.snd el x2.hh
 refine ⟨G2,ρ,x2.gh,(hro.mono x1.gg).mono x2.gg,k2.fst,fun u eu G3 H3 F=> ?_⟩
 have k3:=k2.snd eu F.hh
 have x13:=(x1.trans x2).trans F
 have p3:=p1.mono (x2.gg.trans F.gg)
 cases d with
 | lst ds=>
  rw [rep_lst] at p3
  refine bp (p3) fun a xs hS106 sq rl=> ?_; subst hS106
  exact .inl (du a xs rfl (F.gh.seq sq.sq) (fun p hp=>(du _ _ (aq e (aq el (aq eu rfl))) (x13.trans (.new F.gh hp _)) (rep_lst.mpr (du p _ rfl (.of ao) ((pB rl l u).mono (Ext.new F.gh hp _).gg))))))
 | tup ds=>
  rw [rep_tup] at p3
  refine bp (p3) fun a xs hS107 sq rl=> ?_; subst hS107
  unfold fj at k3
  dsimp only at k3
  by_cases hw:HT.cv ds.length 0 l=0∧HT.cv ds.length ds.length u=ds.length
  ·rw [if_pos hw] at k3; exact k3.elim
  ·exact .inr (kR a xs rfl (F.gh.seqT sq) (by rw [← rl.length]; exact hw) (fun p hp=>(du _ _ (aq e (aq el (aq eu (if_neg hw)))) (x13.trans (.new F.gh hp _)) (rep_tup.mpr (du p _ rfl (.of ao) ((pB rl l u).mono (Ext.new F.gh hp _).gg))))))
 | _=>exact k3.elim
end
inductive Out where
 | nx (ρ:DS) | rt (d:D) | bk (ρ:DS) | ct (ρ:DS) | exc (c:Addr) | bad
noncomputable def OkO (E:XK)(H:Hp):Out→Prop
 | .exc c=>∀ H',Same H H'→E (.ref c) none H'
 | .bad=>False
 | _=>True
noncomputable def Out.then:Out→(DS→Out)→Out
 | .nx ρ,f=>f ρ
 | o,_=>o
noncomputable def Res.out {α:Type}:Res α→(α→Out)→Out
 | .ok a,f=>f a
 | .exc c,_=> .exc c
 | .bad,_=> .bad
noncomputable def SO (X:Cx)(pins:List (Addr×Obj))(G H:Hp)(o:Out)(fl:Flow)(s':Shared):Prop:=
 match fl with
 | .next=>∃ ρ' σ' G' H',o= .nx ρ'∧Inv X pins σ' H' s'∧Ext G H G' H'∧Ro X.K G' σ' ρ'
 | .brk=>∃ ρ' σ' G' H',o= .bk ρ'∧Inv X pins σ' H' s'∧Ext G H G' H'∧Ro X.K G' σ' ρ'
 | .cont=>∃ ρ' σ' G' H',o= .ct ρ'∧Inv X pins σ' H' s'∧Ext G H G' H'∧Ro X.K G' σ' ρ'
 | .ret u=>∃ d v σ' G' H',o= .rt d∧Inv X pins σ' H' s'∧RelV v u∧Ext G H G' H'∧Rep X.K G' d v
noncomputable def Go (X:Cx)(E:XK)(st:Stmt)(F:DS→Out):Prop:=
 ∀ (pins:List (Addr×Obj)) (s:Shared) (σ:St) (G H:Hp) (ρ:DS),Inv X pins σ H s→Same G H→Ro X.K G σ ρ→OkO E H (F ρ)→
  wpAny (model X.prog X.w) X.A (exec st X.env) (SO X pins G H (F ρ)) X.xe s
noncomputable def Gp (X:Cx)(E:XK)(sts:List Stmt)(F:DS→Out):Prop:=
 ∀ (pins:List (Addr×Obj)) (s:Shared) (σ:St) (G H:Hp) (ρ:DS),Inv X pins σ H s→Same G H→Ro X.K G σ ρ→OkO E H (F ρ)→
  wpAny (model X.prog X.w) X.A (execs sts X.env) (SO X pins G H (F ρ)) X.xe s
theorem OkO.fst {E:XK}{H:Hp}{o:Out}{f:DS→Out}(h:OkO E H (o.then f)):OkO E H o:=by cases o <;> first | exact h | trivial
theorem OkO.snd {E:XK}{H H1:Hp}{o:Out}{f:DS→Out}{ρ:DS}(h:OkO E H (o.then f))(e:o= .nx ρ)(s:Same H H1):OkO E H1 (f ρ):=by
 subst e
 have h':OkO E H (f ρ):=h
 cases q:f ρ with
 | exc c=>rw [q] at h'; exact fun H' s'=>h' H' (s.trans s')
 | bad=>rw [q] at h'; exact h'
 | nx _=>trivial
 | rt _=>trivial
 | bk _=>trivial
 | ct _=>trivial
theorem OkO.le {E:XK}{H H1:Hp}{o:Out}(h:OkO E H o)(s:Same H H1):OkO E H1 o:=by
 cases o with
 | exc c=>exact fun H' s'=>h H' (s.trans s')
 | bad=>exact h
 | _=>trivial
theorem OkO.res {α:Type}{E:XK}{H:Hp}{x:Res α}{f:α→Out}(h:OkO E H (x.out f)):OkR E H x:=by cases x <;> first | exact h | trivial
theorem OkO.res2 {α:Type}{E:XK}{H H1:Hp}{x:Res α}{f:α→Out}{a:α}(h:OkO E H (x.out f))(e:x= .ok a)(s:Same H H1):OkO E H1 (f a):=by
 subst e
 exact OkO.le (show OkO E H (f a) from h) s
theorem bO {α:Type}{x:Res α}{f:α→Out}{a:α}(e:x= .ok a):x.out f=f a:=by subst e; rfl
section
variable{X:Cx}{E:XK}
noncomputable def ay (F R:DS→Out):DS→Out:=fun ρ=>(F ρ).then R
theorem uR {st:Stmt}{F:DS→Out}(h1:Go X E st F):Gp X E [st] F:=by
 intro pins s σ G H ρ I hs hr ho
 refine wpAny_execs_cons (aW (h1 pins s σ G H ρ I hs hr ho) fun fl s1 q=> ?_)
 cases fl with
 | next=>exact wpAny_execs_nil q
 | brk=>exact q
 | cont=>exact q
 | ret u=>exact q
noncomputable def ca (f:DS→Res D):DS→Out:=fun ρ=>(f ρ).out .rt
theorem x7 {e:Expr}{pos:Pos}{f:DS→Res D}(h:PD X E e f):Go X E (.Return (some e) pos) (ca f):=by
 intro pins s σ G H ρ I hs hr ho
 refine aW (tB (pos:=pos) (dR h) pins s σ H { nx:=fun _ _=>False,bk:=fun _ _=>False,ct:=fun _ _=>False,rt:=fun v H'=>∃ d G',f ρ= .ok d∧Ext G H G' H'∧Rep X.K G' d v } I ⟨G,ρ,hs,hr,ho.res,fun d e v G' H' x rp=>(du d G' e x rp)⟩) fun fl s1 q=> ?_
 cases fl with
 | next=>obtain ⟨_,_,_,q⟩:=q; exact q.elim
 | brk=>obtain ⟨_,_,_,q⟩:=q; exact q.elim
 | cont=>obtain ⟨_,_,_,q⟩:=q; exact q.elim
 | ret u=>
  obtain ⟨v,σ',H',I',rv,d,G',e,x,rp⟩:=q
  exact (Ek d v σ' G' H' (bO e) I' rv x rp)
noncomputable def aP (i:Nat)(f:DS→Res D):DS→Out:=fun ρ=>(f ρ).out fun d=> .nx (ρ.set i (some d))
noncomputable def lC (fc:DS→Res Bool)(Fa Fb:DS→Out):DS→Out:=fun ρ=>(fc ρ).out fun k=>if k=true then Fa ρ else Fb ρ
noncomputable def Dk (C:Addr)(ok:DS→Bool):DS→Out:=fun ρ=>if ok ρ=true then .exc C else .bad
noncomputable def zx (j:Nat)(F:DS→Out):List D→DS→Out
 | [],ρ=> .nx ρ
 | d :: ds,ρ=>match F (ρ.set j (some d)) with
  | .nx ρ'=>zx j F ds ρ'
  | .ct ρ'=>zx j F ds ρ'
  | .bk ρ'=> .nx ρ'
  | .rt d=> .rt d
  | .exc c=> .exc c
  | .bad=> .bad
noncomputable def Gy (fi:DS→Res (List D))(j:Nat)(F:DS→Out):DS→Out:=fun ρ=>(fi ρ).out fun ds=>zx j F ds ρ
end
noncomputable def fv:Out→Res D
 | .rt d=> .ok d
 | .nx _=> .ok .non
 | .exc c=> .exc c
 | _=> .bad
noncomputable def aH (N:List Str)(ds:List D):DS:=ds.map some ++ List.replicate (N.length - ds.length) none
theorem rN {K:W.Frag}{G:Hp}{N:List Str}{ds:List D}{vs:List V}(h:RepL K G ds vs):Ro K G (fM N vs) (aH N ds):=by
 intro i d e
 unfold aH at e
 unfold fM
 by_cases hi:i < ds.length
 ·rw [List.getElem?_append_left (by simpa using hi),List.getElem?_map] at e
  cases q:ds[i]? with
  | none=>rw [q] at e; cases e
  | some d'=>
   rw [q] at e; cases e
   obtain ⟨v,hv,rv⟩:=h.get q
   have hv2:i < vs.length:=(fG hv).1
   exact ⟨v,by rw [List.getElem?_append_left (by simpa using hv2),List.getElem?_map,hv]; rfl,rv⟩
 ·rw [List.getElem?_append_right (by simpa using hi),List.getElem?_replicate] at e
  split at e <;> cases e
section
variable{P:Program}{w:World}{K:W.Frag}{mg:Str→Option Value}{base:Heap}
noncomputable abbrev wz (P:Program)(w:World)(K:W.Frag)(mg:Str→Option Value)(base:Heap)(N:List Str)(qual:Str)(scope:Scope)(f:Addr)(cdv:Value)(A:Around)(outer:List Env)(s:Shared)(H:Hp)(E:XK):Cx:=qK (CXF P w) P w K mg base N qual scope f cdv A outer s H E
theorem Fun.okF {x qual:Str}{st:Stmt}{f:Addr}{fd:FuncData}{N ps:List Str}{k:Nat}{sp:Sp}(F:Fun K x qual st f fd)(S:FnScope N ps (ag st))(len:∀ vs H Q E,sp vs H Q E→vs.length=ps.length)
  (hbody:∀ (cdv:Value) (A:Around) (outer:List Env) (s:Shared) (H:Hp) (vs:List V) (Q:VK) (E:XK),Room k (A.deeper (envOfC qual (ag st) s.heap.objs.size f cdv))→sp vs H Q E→
   ∃ t,DO (wz P w K mg base N qual (ag st) f cdv A outer s H E) (cG st) t∧t { nx:=fun _ H'=>Q .non H',rt:=Q } (fM N vs) H):FnOk P w K mg base (CXF P w) (k+1) f fd ps sp:=by
 refine AU (F.ex) fun oc od kV doc pm an cdv ct osl hS108 lk hcd=> ?_; subst hS108
 exact w9 lk hcd S len fun A outer s H vs Q E hr hsp=>hbody cdv A outer s H vs Q E hr hsp
theorem Fun.pure {x qual:Str}{st:Stmt}{f:Addr}{fd:FuncData}{N ps:List Str}{k:Nat}{m:List D→Res D}(F:Fun K x qual st f fd)(S:FnScope N ps (ag st))(len:∀ ds,m ds≠ .bad→ds.length=ps.length)
  (hbody:∀ (cdv:Value) (A:Around) (outer:List Env) (s:Shared) (H:Hp) (E:XK),Room k (A.deeper (envOfC qual (ag st) s.heap.objs.size f cdv))→
   ∃ Fb,Gp (wz P w K mg base N qual (ag st) f cdv A outer s H E) E (cG st) Fb∧∀ ds,m ds≠ .bad→fv (Fb (aH N ds))=m ds):FnOk P w K mg base (CXF P w) (k+1) f fd ps (pureSp K m):=by
 have nb:∀ {E:XK} {H:Hp} {r:Res D},OkR E H r→r≠ .bad:=fun h z=>by rw [z] at h; exact h
 refine AU (F.ex) fun oc od kV doc pm an cdv ct osl hS109 lk hcd=> ?_; subst hS109
 refine w9 lk hcd S (fun vs H Q E hZ117=>(by obtain ⟨ds,G,_,rl,L,_⟩:=hZ117; rw [← rl.length]; exact len ds (nb L))) fun A outer s H vs Q E hr hsp=> ?_
 refine cps fun PP kP=> ?_
 obtain ⟨ds,G,hs,rl,L,k⟩:=hsp
 obtain ⟨Fb,hb,hm⟩:=hbody cdv A outer s H E hr
 refine kP ?_; clear kP PP
 have J:=hm ds (nb L)
 have hoO:OkO E H (Fb (aH N ds)):=by
  rw [← J] at L
  cases q:Fb (aH N ds) with
  | exc c=>rw [q] at L; exact L
  | bad=>rw [q] at L; exact L
  | _=>trivial
 refine ⟨fun D σ H1=>(σ=fM N vs∧H1=H∧(D.nx=fun _ M=>Q .non M)∧D.rt=Q),?_,rfl,rfl,rfl,rfl⟩
 intro pins s1 σ H1 D I hZ10
 refine r_ (hZ10) fun e1 e2 e3 e4=> ?_
 subst e1 e2
 refine aW (hb pins s1 _ G H1 (aH N ds) I hs (rN rl) hoO) fun fl s2 q=> ?_
 cases fl with
 | next=>
  refine o_ (q) fun ρ' t G' M e I' x r=> ?_
  refine ⟨t,M,I',?_⟩
  rw [e3]
  exact k .non (by rw [← J,e]; rfl) .non G' M x (rep_non.mpr rfl)
 | brk=>
  refine o_ (q) fun ρ' t G' M e I' x r=> ?_
  rw [e] at J
  exact absurd J.symm (nb L)
 | cont=>
  refine o_ (q) fun ρ' t G' M e I' x r=> ?_
  rw [e] at J
  exact absurd J.symm (nb L)
 | ret u=>
  refine Hs (q) fun d v t G' M e I' rv x rp=> ?_
  refine ⟨v,t,M,I',rv,?_⟩
  rw [e4]
  exact k d (by rw [← J,e]; rfl) v G' M x rp
end
section
variable{X:Cx}{E:XK}
noncomputable def ab (i:Nat):DS→Res D:=fun ρ=>match ρ[i]? with | some (some d)=> .ok d | _=> .bad
theorem dv (i:Nat){x:Str}{pos:Pos}(hN:X.N[i]?=some x:=by rfl)(hv:t9 X.env.scope x:=by first | exact Or.inl rfl | exact Or.inr (Or.inl rfl) | exact Or.inr (Or.inr rfl))(hd:(x == ("__debug__" :Str))=false:=by decide)
  (hcd:(x == ("__classdict__" :Str))=false:=by decide):PD X E (.Name x pos) (ab i):=CW hN hv hd hcd
end
section
variable{α β:Type}{a:α}{f:α→Res β}{g:α→Out}{c:Addr}
theorem ar:(Res.ok a).bind f=f a:=id rfl
theorem qR:(Res.exc c:Res α).bind f= .exc c:=id rfl
theorem bA:(Res.ok a).out g=g a:=id rfl
theorem sC:(Res.exc c:Res α).out g= .exc c:=id rfl
end
section
variable{ρ:DS}{R:DS→Out}{d e:D}{i j:Int}{l:List D}{c:Addr}{F F':DS→Out}{f f':DS→Res D}{fc:DS→Res Bool}{b:Bool}
theorem eP:(Out.nx ρ).then R=R ρ:=id rfl
theorem sF:(Out.rt d).then R= .rt d:=id rfl
theorem qV:(Out.exc c).then R= .exc c:=id rfl
theorem iF:ay F R ρ=(F ρ).then R:=id rfl
theorem Cj {k:Nat}:aP k f ρ=(f ρ).out fun d=> .nx (ρ.set k (some d)):=id rfl
theorem jB:ca f ρ=(f ρ).out .rt:=id rfl
theorem Ea:lC fc F F' ρ=(fc ρ).out fun k=>if k=true then F ρ else F' ρ:=id rfl
theorem Bd {o:D→D→Res D}:ac f f' o ρ=(f ρ).bind fun a=>(f' ρ).bind fun b=>o a b:=id rfl
theorem DX {fs:DS→Res (List D)}{g:List D→Res D}:bx fs g ρ=(fs ρ).bind g:=id rfl
theorem BO:f7 f ρ=(f ρ).bind fun d=>match d with | .bl b=> .ok b | _=> .bad:=id rfl
theorem zu:ab 0 (some d :: ρ)= .ok d:=id rfl
theorem zv {k:Nat}{o:Option D}:ab (k+1) (o :: ρ)=ab k ρ:=id rfl
theorem zo {o o':Option D}:(o :: ρ).set 0 o'=o' :: ρ:=id rfl
theorem zp {k:Nat}{o o':Option D}:(o :: ρ).set (k+1) o'=o :: ρ.set k o':=id rfl
theorem qT:fv (.rt d)= .ok d:=id rfl
theorem wW:fv (.nx ρ)= .ok .non:=id rfl
theorem vx:fv (.exc c)= .exc c:=id rfl
theorem BM:wB (.int i) (.int j)= .ok (.int (i+j)):=id rfl
theorem Cl:jI (.int i) (.int j)= .ok (.int (i - j)):=id rfl
theorem zj (h1: -(2 ^ 64) < j)(h2:j < 2 ^ 64):vV (.int i) (.int j)= .ok (.int (i * j)):=by
 unfold vV iq; dsimp only; rw [if_pos (decide_eq_true (show CMul i j from Or.inr ⟨h1,h2⟩))]
theorem zi (h1: -(2 ^ 64) < i)(h2:i < 2 ^ 64):vV (.int i) (.int j)= .ok (.int (i * j)):=by
 unfold vV iq; dsimp only; rw [if_pos (decide_eq_true (show CMul i j from Or.inl ⟨h1,h2⟩))]
theorem mE (h:0 < j):kY (.int i) (.int j)= .ok (.int (i % j)):=by
 unfold kY iq; dsimp only; rw [if_pos (decide_eq_true h)]
theorem pL (h1:0 < j)(h2:j < 1073741824):jX (.int i) (.int j)= .ok (.int (i / j)):=by
 unfold jX iq; dsimp only; rw [if_pos (decide_eq_true (show wy i j from ⟨h1,h2⟩))]
theorem Ec:DJ (.int i) (.int j)= .ok (.bl (decide (i < j))):=id rfl
theorem Bc:sj (.int i) (.int j)= .ok (.bl (decide (i≤j))):=id rfl
theorem D_:DI (.int i) (.int j)= .ok (.bl (decide (j < i))):=id rfl
theorem DZ:HJ (.int i) (.int j)= .ok (.bl (decide (j≤i))):=id rfl
theorem pM:bf [.lst l]= .ok (.int l.length):=id rfl
theorem zd:bf [.tup l]= .ok (.int l.length):=id rfl
theorem mD {d:D}(h:atI l i=some d):aM (.lst l) (.int i)= .ok d:=by unfold aM; dsimp only; rw [h]
theorem dC {d:D}(h:atI l i=some d):aM (.tup l) (.int i)= .ok d:=by unfold aM; dsimp only; rw [h]
theorem jq {α:Type}{xs:List α}{i:Int}{v:α}(h0:0≤i)(h:xs[i.toNat]?=some v):atI xs i=some v:=by
 have:=ub (j:=i.toNat) h
 rwa [Int.toNat_of_nonneg h0] at this
theorem zh:Fq [.int i,.int j]= .ok (.int (min i j)):=id rfl
theorem zf:Fp [.int i,.int j]= .ok (.int (max i j)):=id rfl
end
section
variable{X:Cx}{E:XK}
noncomputable def um (f:DS→Res D):DS→Out:=fun ρ=>(f ρ).out fun _=> .nx ρ
noncomputable def pV (K:W.Frag)(C:Addr)(m:List D→Res D):Sp:=fun vs H Q E=>∃ p dx rest ds G,vs= .ref p :: rest∧H p=some (.ins C dx [])∧Same G H∧G p=none∧RepL K G ds rest∧OkR E H (m ds)∧
 ∀ ns fds,m ds= .ok (.ins C ns fds)→∀ fs G' H',fs.map (·.1)=ns→RepL K G' fds (fs.map (·.2))→H' p=some (.ins C dx fs)→(∀ b o,H b=some o→b≠p→H' b=some o)→Same G G'→Same G' H'→(∀ b o,G' b=some o→G b=some o∨H b=none∨qb o)→G' p=none→Q .non H'
noncomputable def By (C:Addr)(m:List D→Res D):Prop:=∀ ds d,m ds= .ok d→∃ ns fds,d= .ins C ns fds
theorem zZ {CX:qy}{k:Nat}{f C:Addr}{fd:FuncData}{ps:List Str}{m:List D→Res D}{x:Str}{p pos:Pos}{e:Expr}{es:List Expr}{fs:DS→Res (List D)}(M:Mk X.K C f)(F:FnOk X.prog X.w X.K X.mg X.base CX k f fd ps (pV X.K C m))(hmk:By C m)(hr:Room (k+1) X.A)(hg:Gl X x)(hm:X.mg x=some (.ref C))(hb:Binds X.K fd ps [])(hx:cL CX X E)
  (ha:lI X E (e :: es) fs) (hpe:∀ t,PA X (e :: es) t→PE X (.Call (.Name x p) (e :: es) [] pos) (Bu C (pV X.K C m) [] E t)) :
  PD X E (.Call (.Name x p) (e :: es) [] pos) (bx fs m):=by
 intro pins s σ G H ρ I hs hro ho
 refine aW (hpe _ (iO ha) pins s σ H (fun v H'=>∃ d G',bx fs m ρ= .ok d∧Ext G H G' H'∧Rep X.K G' d v) I ?_) fun u s' hZ118=>(by obtain ⟨v,H',I',r',d,G',e,x,rp⟩:=hZ118; exact ⟨d,e,v,G',H',I',r',x,rp⟩)
 refine ⟨G,ρ,hs,hro,ho.fst,fun ds e1 vs G1 H1 x1 p1 y dy hy hdy hne=> ?_⟩
 have kk:=ho.snd e1 x1.hh
 have N:Same H1 (bg (bg H1 dy (.own y)) y (.ins C dy [])):=fun b o J=>by rw [ai (aw J hy),ai (aw J hdy)]; exact J
 have fr2:∀ b,(bg (bg H1 dy (.own y)) y (.ins C dy [])) b=none→H1 b=none:=fun b J=>N.free J
 have g1y:G1 y=none:=by
  cases q:G1 y with
  | none=>rfl
  | some o=>rw [x1.gh y o q] at hy; cases hy
 refine (El y dy vs ds G1 (by rw [List.append_nil]) ao (x1.gh.trans N) g1y p1 (kk.le N) (fun ns fds em fs2 G' H' hn rl hp kp sg sh nw gp=>⟨rfl,?_⟩))
 refine (du (.ins C ns fds) (bg G' y (.ins C dy fs2)) (aq e1 em) (x1.trans ⟨?_,?_,?_,?_⟩) (rep_ins.mpr (jh y dy fs2 rfl ao hn (rl.mono ?_))))
 ·exact fun b o J=>kp b o (N b o J) (aw J hy)
 ·exact fun b o J=>by rw [ai (aw (sg b o J) gp)]; exact sg b o J
 ·intro b o J
  by_cases L:b=y
  ·subst L; rw [ao] at J; cases J; exact hp
  ·rw [ai L] at J; exact sh b o J
 ·intro b o J
  by_cases L:b=y
  ·subst L; exact .inr (.inl hy)
  ·rw [ai L] at J
   exact (nw b o J).imp id (Or.imp (fr2 b) id)
 ·exact fun b o J=>by rw [ai (aw J gp)]; exact J
noncomputable def Hh (F:DS→Out)(g:Addr→Option D):DS→Out:=fun ρ=>match F ρ with
 | .exc c=>(match g c with | some d=> .rt d | none=> .bad)
 | o=>o
end
theorem ud:bootBuiltins "list" =some (.type "list"):=by decide +kernel
theorem wG:bootBuiltins "tuple" =some (.type "tuple"):=by decide +kernel
theorem BF:bootBuiltins "min" =some (.builtin "min"):=by decide +kernel
theorem BE:bootBuiltins "max" =some (.builtin "max"):=by decide +kernel
section
variable{X:Cx}{E:XK}
theorem rA {x:Str}{i:Int}{pos:Pos}(hm:∃ t,X.mg x=some (.int i t))(hg:Gl X x:=by rfl)(hd:(x == ("__debug__" :Str))=false:=by decide):PD X E (.Name x pos) (fun _=> .ok (.int i)):=by
 obtain ⟨t,hm⟩:=hm
 exact xO hg hm ⟨t,rfl⟩ hd
end
section
variable{ρ:DS}{fa fb fc:DS→Res D}{f g:DS→Res Bool}{b:Bool}{c:Addr}{F:DS→Out}{j:Nat}{d:D}{ds:List D}
theorem BN:yT f g ρ=(f ρ).bind fun b=>if b=true then g ρ else .ok false:=id rfl
theorem Ed:HN f g ρ=(f ρ).bind fun b=>if b=true then .ok true else g ρ:=id rfl
theorem Ci:m5 f ρ=(f ρ).bind fun b=> .ok (!b):=id rfl
theorem za:um fa ρ=(fa ρ).out fun _=> .nx ρ:=id rfl
theorem BT {fi:DS→Res (List D)}:Gy fi j F ρ=(fi ρ).out fun ds=>zx j F ds ρ:=id rfl
theorem Cf {a b:Int}:vW (.int a) (.int b)= .ok (.bl (!(a == b))):=id rfl
theorem BR {a b:Int}:wv (.int a) (.int b)= .ok (.bl (a == b)):=id rfl
theorem y9:Gr fa fb ρ=(fa ρ).bind fun d=>match d with | .bl true=>fb ρ | .bl false=> .ok (.bl false) | _=> .bad:=id rfl
theorem zk:GS fa ρ=(fa ρ).bind fun d=>match d with | .bl b=> .ok (.bl (!b)) | _=> .bad:=id rfl
theorem ze {fs:DS→Res (List D)}:fu fs ρ=(fs ρ).bind fun ds=>if aL ds.length=true then .ok (.lst ds) else .bad:=id rfl
theorem zr {fs:DS→Res (List D)}:bX fs ρ=(fs ρ).bind fun ds=>if aL ds.length=true then .ok (.tup ds) else .bad:=id rfl
theorem zg {C:Addr}{m:Str}{gm:List D→Res D}:iM C m fa gm ρ=(fa ρ).bind fun o=>if ll C m o=true then gm [o] else .bad:=id rfl
theorem wX {lo hi:DS→Res (Option Int)}:yO fa lo hi ρ=(fa ρ).bind fun d=>(lo ρ).bind fun l=>(hi ρ).bind fun u=>fj l u d:=id rfl
theorem Cm {F:DS→Out}{gx:Addr→Option D}:Hh F gx ρ=match F ρ with | .exc c=>(match gx c with | some d=> .rt d | none=> .bad) | o=>o:=id rfl
theorem BY {d:D}:GP d .non= .ok (.bl (Gb d)):=id rfl
theorem zl {d:D}:Ft d .non= .ok (.bl (!Gb d)):=id rfl
end
section
variable{X:Cx}{E:XK}
theorem Fz {pl:Sem Bool}{k:Nat}{f C:Addr}{fd:FuncData}{ps:List Str}{g:List D→Res D}{m:Str}{apos pos:Pos}{o:Expr}{fo:DS→Res D}(hoo:PD X E o fo)(c:Cls X.K C)(hm:Meth X.K C m f)(F:FnOk X.prog X.w X.K X.mg X.base (CXF X.prog X.w) k f fd ps (pureSp X.K g))(hr:Room k X.A)(hb:Binds X.K fd ps [])
  (hx:cL (CXF X.prog X.w) X E:=by exact iD fun _ _ _ h=>h)
  (ht:eval (.Call (.Attribute o m apos) [] [] pos) X.env=(do
   let ov ← eval o X.env
   standAt apos.atName
   let (f,first) ← holding [ov] (getMethod ov m pl)
   callWith pos f first (backTo pos (starEach [] X.env)) (backToKw pos (keywordEach [] X.env))):=by rfl):PD X E (.Call (.Attribute o m apos) [] [] pos) (iM C m fo g):=
 xQ (pl:=pl) hoo c hm F hr hb hx (xV (pl:=pl) (dR hoo) c hm F hr hb .nil hx ht)
end
section
variable{X:Cx}{E:XK}{e e2:Expr}{p pos:Pos}{f f2:DS→Res D}
theorem bw (hm:X.mg "len" =none)(h:PD X E e f)(hg:Gl X "len" :=by rfl)(he:starEach [e] X.env=(false,eval e X.env) :: starEach [] X.env:=by rfl):PD X E (.Call (.Name "len" p) [e] [] pos) (fun ρ=>(f ρ).bind fun a=>bf [a]):=by
 have q:=iP (X:=X) (E:=E) (p:=p) (pos:=pos) pq BH hg hm PySem.boot_len (aa h ae he) (by decide) (by decide) he rfl
 have e:bx (fun ρ=>(f ρ).bind fun d=>(Res.ok []:Res (List D)).bind fun ds=> .ok (d :: ds)) bf=fun ρ=>(f ρ).bind fun a=>bf [a]:=funext fun ρ=>by
  show ((f ρ).bind _).bind _=_
  cases f ρ <;> rfl
 exact e ▸ q
theorem xS (hm:X.mg "tuple" =none)(h:PD X E e f)(hg:Gl X "tuple" :=by rfl)(he:starEach [e] X.env=(false,eval e X.env) :: starEach [] X.env:=by rfl):PD X E (.Call (.Name "tuple" p) [e] [] pos) (fun ρ=>(f ρ).bind fun a=>ny [a]):=by
 have q:=oP (X:=X) (E:=E) (p:=p) (pos:=pos) nD wI hg hm wG (aa h ae he) (by decide) (by decide) he rfl
 have e:bx (fun ρ=>(f ρ).bind fun d=>(Res.ok []:Res (List D)).bind fun ds=> .ok (d :: ds)) ny=fun ρ=>(f ρ).bind fun a=>ny [a]:=funext fun ρ=>by
  show ((f ρ).bind _).bind _=_
  cases f ρ <;> rfl
 exact e ▸ q
theorem uI (hm:X.mg "max" =none)(h:PD X E e f)(hc:X.calm=true:=by rfl)(hg:Gl X "max" :=by rfl)(he:starEach [e] X.env=(false,eval e X.env) :: starEach [] X.env:=by rfl):PD X E (.Call (.Name "max" p) [e] [] pos) (fun ρ=>(f ρ).bind fun a=>nO [a]):=by
 have q:=iP (X:=X) (E:=E) (p:=p) (pos:=pos) (ve hc) y6 hg hm BE (aa h ae he) (by decide) (by decide) he rfl
 have e:bx (fun ρ=>(f ρ).bind fun d=>(Res.ok []:Res (List D)).bind fun ds=> .ok (d :: ds)) nO=fun ρ=>(f ρ).bind fun a=>nO [a]:=funext fun ρ=>by
  show ((f ρ).bind _).bind _=_
  cases f ρ <;> rfl
 exact e ▸ q
end
section
variable{ρ:DS}{fa fb fc:DS→Res D}{c:Addr}{l:List D}{i:Int}
noncomputable def sP:D→D→Res D→Res Bool
 | .int a,.int b,z=>if a≤b then z.bind fun c=>(match c with | .int c=> .ok (decide (b≤c)) | _=> .bad) else .ok false
 | _,_,_=> .bad
theorem B_ {x y z:Int}:sP (.int x) (.int y) (.ok (.int z))= .ok (decide (x≤y) && decide (y≤z)):=by
 unfold sP
 dsimp only
 by_cases h:x≤y
 ·rw [if_pos h,decide_eq_true h]; rfl
 ·rw [if_neg h,decide_eq_false h]; rfl
theorem vw:gL fa fb fc sj sj ρ=(fa ρ).bind fun a=>(fb ρ).bind fun b=>sP a b (fc ρ):=by
 unfold gL
 cases fa ρ with
 | ok a=>
  cases fb ρ with
  | ok b=>
   rw [ar,ar,ar,ar]
   cases a with
   | int x=>
    cases b with
    | int y=>
     rw [Bc,ar]
     unfold sP
     dsimp only
     by_cases h:x≤y
     ·rw [decide_eq_true h,if_pos h]
      dsimp only
      cases fc ρ with
      | ok c=>
       rw [ar,ar]
       cases c <;> rfl
      | _=>rfl
     ·rw [decide_eq_false h,if_neg h]
    | _=>rfl
   | _=>cases b <;> rfl
  | _=>rfl
 | _=>rfl
theorem BP:Gs (.int i)= .ok (some i):=id rfl
theorem zt:Du (.tup l)= .ok l:=id rfl
theorem zn:AE (.lst l)= .ok l:=id rfl
theorem Ee:Dk c (fun _=>true) ρ= .exc c:=id rfl
theorem Ch:CI (.int i)= .ok (.int (-i)):=id rfl
theorem zq {x y z:D}:(([x,y,z]:List D).length:Int)=3:=id rfl
theorem ul {x:D}{r:List D}:aM (.tup (x :: r)) (.int 0)= .ok x:=dC (jq (by decide) rfl)
theorem wY {x y:D}{r:List D}:aM (.tup (x :: y :: r)) (.int 1)= .ok y:=dC (jq (by decide) rfl)
theorem qU {x y z:D}{r:List D}:aM (.tup (x :: y :: z :: r)) (.int 2)= .ok z:=dC (jq (by decide) rfl)
theorem wU {x:D}{r:List D}:aM (.lst (x :: r)) (.int 0)= .ok x:=mD (jq (by decide) rfl)
theorem wV {x y:D}{r:List D}:aM (.lst (x :: y :: r)) (.int 1)= .ok y:=mD (jq (by decide) rfl)
theorem Ca {α:Type}:aL ([]:List α).length=true:=decide_eq_true (by show 0≤100000; decide)
theorem Cb {α:Type}{a:α}:aL [a].length=true:=decide_eq_true (by show 1≤100000; decide)
theorem Cc {α:Type}{a b:α}:aL [a,b].length=true:=decide_eq_true (by show 2≤100000; decide)
theorem Cd {α:Type}{a b c:α}:aL [a,b,c].length=true:=decide_eq_true (by show 3≤100000; decide)
theorem Ce {α:Type}{a b c d:α}:aL [a,b,c,d].length=true:=decide_eq_true (by show 4≤100000; decide)
theorem Ck {x y z:D}:fj none (some 2) (.tup [x,y,z])= .ok (.tup [x,y]):=by
 unfold fj
 dsimp only
 rw [if_neg (by simp [HT.cv])]
 rfl
end
theorem dg {P:Program}{w:World}{X:Cx}:cL (CXF P w) X pe:=by
 intro pins σ H s e s' I h
 obtain ⟨_,_,_,_,_,_,_,_,_,_,_,_,_,_,q⟩:=h
 exact q.elim
noncomputable def Ff:D→Option bu
 | .int i=>some (.inl i)
 | .str x=>some (.inr x)
 | _=>none
noncomputable def gb:List D→Option (List bu)
 | []=>some []
 | d :: ds=>match Ff d,gb ds with
  | some k,some ks=>some (k :: ks)
  | _,_=>none
theorem i6 {K:W.Frag}{G:Hp}:∀ {ds:List D} {xs:List V} {k:List bu},RepL K G ds xs→gb ds=some k→xs=k.map kV
 | [],xs,k,h,e=>by unfold gb at e; cases e; rw [h.inv0]; rfl
 | d :: ds,xs,k,h,e=>by
  refine bp (h.inv) fun v r hS110 h1 h2=> ?_; subst hS110
  unfold gb at e
  split at e
  ·rename_i k0 ks e1 e2
   cases e
   rw [i6 h2 e2]
   unfold Ff at e1
   split at e1
   ·cases e1; rw [rep_int.mp h1]; rfl
   ·cases e1; rw [rep_str.mp h1]; rfl
   ·cases e1
  ·cases e
noncomputable def qv:List (List bu)→List D→List bu→Option D
 | k :: ks,d :: ds,q=>if k=q then some d else qv ks ds q
 | _,_,_=>none
theorem r6 {K:W.Frag}{G:Hp}{q:List bu}:∀ {kvs:List (List bu×V)} {ds:List D},RepL K G ds (kvs.map (·.2))→(∀ d,qv (kvs.map (·.1)) ds q=some d→∃ v,iu kvs q=some v∧Rep K G d v)∧(qv (kvs.map (·.1)) ds q=none→iu kvs q=none)
 | [],ds,h=>⟨fun d e=>(by unfold qv at e; cases ds <;> cases e),fun _=>rfl⟩
 | (k,v) :: r,ds,h=>by
  cases ds with
  | nil=>exact absurd h.inv0 (by simp)
  | cons d0 ds=>
   refine bp (h.inv) fun v' r' e' h1 h2=> ?_
   rw [List.map_cons] at e'
   cases e'
   have ih:=r6 (q:=q) h2
   have ev:iu ((k,v) :: r) q=if k=q then some v else iu r q:=by
    unfold iu
    rw [List.find?_cons]
    by_cases z:k=q
    ·rw [decide_eq_true z,if_pos z]; rfl
    ·rw [decide_eq_false z,if_neg z]
   rw [List.map_cons]
   unfold qv
   rw [ev]
   by_cases z:k=q
   ·rw [if_pos z,if_pos z]
    exact ⟨fun d e=>⟨v,rfl,(by cases e; exact h1)⟩,fun e=>(by cases e)⟩
   ·rw [if_neg z,if_neg z]
    exact ih
noncomputable def jS (ks:List (List bu))(ds kd:List D):Res D:=match gb kd with
 | some k=>(match qv ks ds k with | some d=> .ok d | none=> .bad)
 | none=> .bad
noncomputable def cu:D→D→Res D
 | .dct ks ds,.tup kd=>jS ks ds kd
 | .fdc ks ds,.tup kd=>jS ks ds kd
 | _,_=> .bad
theorem Same.rd {H H':Hp}{a:Addr}{u:HO}(s:Same H H')(h:Rd H a u):Rd H' a u:=by
 rcases h with h | ⟨o,h⟩
 ·exact .inl (s _ _ h)
 ·exact .inr ⟨o,s _ _ h⟩
section
variable{X:Cx}{E:XK}
theorem lS {o i:Expr}{pos:Pos}{fo fi:DS→Res D}(hu:X.A.units+64 < cLine)(ho:PD X E o fo)(hi:PD X E i fi)(hs:yQ i:=by intro _ _; rfl):PD X E (.Subscript o i pos) (ac fo fi cu):=by
 intro pins s σ G H ρ I hsm hro hok
 refine aW (uK (pos:=pos) (by omega) (dR ho) (dR hi) hs pins s σ H (fun v H'=>∃ d G',ac fo fi cu ρ= .ok d∧Ext G H G' H'∧Rep X.K G' d v) I ?_) fun u s' hZ119=>(by obtain ⟨v,H',I',r',d,G',e,x,rp⟩:=hZ119; exact ⟨d,e,v,G',H',I',r',x,rp⟩)
 refine ⟨G,ρ,hsm,hro,hok.fst,fun d1 e1 v1 G1 H1 x1 p1=>⟨G1,ρ,x1.gh,hro.mono x1.gg,(hok.snd e1 x1.hh).fst,fun d2 e2 v2 G2 H2 x2 p2=> ?_⟩⟩
 have N:=(hok.snd e1 x1.hh).snd e2 x2.hh
 have eo:ac fo fi cu ρ=cu d1 d2:=by unfold ac; rw [e1,ar,e2,ar]
 have go:∀ {ks:List (List bu)} {ds kd:List D} {a:Addr} {M:List (List bu×V)},cu d1 d2=jS ks ds kd→v1= .ref a→Rd G1 a (.dT M)→M.map (·.1)=ks→RepL X.K G1 ds (M.map (·.2))→Rep X.K G2 (.tup kd) v2→Bt (fun _ H Q=>Q v1 H) (fun _ H Q=>Q v2 H) σ H2 (fun v H'=>∃ d G',ac fo fi cu ρ= .ok d∧Ext G H G' H'∧Rep X.K G' d v):=fun {ks ds kd a M} ed ev rd hk rl p2=>by
  rw [ed] at N
  unfold jS at N
  cases ek:gb kd with
  | none=>rw [ek] at N; exact N.elim
  | some k=>
  rw [ek] at N
  dsimp only at N
  cases eq:qv ks ds k with
  | none=>rw [eq] at N; exact N.elim
  | some d=>
  rw [rep_tup] at p2
  refine cps fun PP kP=> ?_
  refine bp (p2) fun b xs hS111 tb rk=> ?_; subst hS111
  subst hk
  obtain ⟨v,ev',rv⟩:=(r6 (q:=k) rl).1 d eq
  refine kP ?_; clear kP PP
  have hx:=i6 rk ek
  subst hx
  refine (EZ a v ev (.inr (jh M k b ((x2.gg.trans x2.gh).rd rd) rfl (x2.gh _ _ tb.h) ev'.symm)) d G2 ?_ (x1.trans x2) (rv.mono x2.gg))
  rw [eo,ed]
  unfold jS
  rw [ek]
  dsimp only
  rw [eq]
 cases d1 with
 | dct ks ds=>
  cases d2 with
  | tup kd=>
   rw [rep_dct] at p1
   refine nZ (p1) fun a M e rd hk rl=> ?_
   exact go rfl e rd hk rl p2
  | _=>exact N.elim
 | fdc ks ds=>
  cases d2 with
  | tup kd=>
   rw [rep_fdc] at p1
   refine jd (p1) fun a o M e rd hk rl=> ?_
   exact go rfl e (.inr ⟨o,rd⟩) hk rl p2
  | _=>exact N.elim
 | _=>exact N.elim
end
section
variable{X:Cx}{E:XK}
noncomputable def wC:D→D→Res D
 | .str a,.str b=>if aL (a.length+b.length)=true then .ok (.str (a ++ b)) else .bad
 | _,_=> .bad
theorem do_addS:DOp X E (binaryOp .Add) wC:=DOp.of s9 fun G H x y dx dy hs rx ry ok=>by
 unfold wC at ok ⊢
 split at ok
 ·rename_i a b
  rw [rep_str] at rx ry
  subst rx ry
  by_cases hz:aL (a.length+b.length)=true
  ·rw [if_pos hz]
   exact (EY a b rfl rfl (bF hz) _ G rfl (.refl hs) (rep_str.mpr rfl))
  ·rw [if_neg hz] at ok; exact ok.elim
 ·exact ok.elim
noncomputable def vg:D→D→Res D
 | .lst a,.lst b=>if aL (a.length+b.length)=true then .ok (.lst (a ++ b)) else .bad
 | _,_=> .bad
theorem BK:DOp X E (binaryOp .Add) vg:=DOp.of CN fun G H x y dx dy hs rx ry ok=>by
 unfold vg at ok ⊢
 split at ok
 ·rename_i a b
  rw [rep_lst] at rx ry
  refine cps fun PP kP=> ?_
  refine bp (rx) fun p xs hS112 l1 r1=> ?_; subst hS112
  refine bp (ry) fun q ys hS113 l2 r2=> ?_; subst hS113
  refine kP ?_; clear kP PP
  by_cases hz:aL (a.length+b.length)=true
  ·rw [if_pos hz]
   refine (zI p q xs ys rfl rfl (hs _ _ l1.h) (hs _ _ l2.h) (by rw [← r1.length,← r2.length]; exact bF hz) (fun t ht=>(du _ _ rfl (.new hs ht _) ?_)))
   exact rep_lst.mpr (du t _ rfl (.of ao) ((r1.append r2).mono (Ext.new hs ht _).gg))
  ·rw [if_neg hz] at ok; exact ok.elim
 ·exact ok.elim
theorem RepL.flat {K:W.Frag}{G:Hp}{ds:List D}{vs:List V}(h:RepL K G ds vs):∀ n:Nat,RepL K G (List.replicate n ds).flatten (List.replicate n vs).flatten
 | 0=> .nil
 | n+1=>by rw [List.replicate_succ,List.replicate_succ,List.flatten_cons,List.flatten_cons]; exact h.append (RepL.flat h n)
noncomputable def Dl:D→D→Res D
 | .lst a,.int k=>if (decide (-1000000≤k) && decide (k≤1000000) && aL (a.length * k.toNat))=true then .ok (.lst (List.replicate k.toNat a).flatten) else .bad
 | _,_=> .bad
theorem BL:DOp X E (binaryOp .Mult) Dl:=DOp.of CQ fun G H x y dx dy hs rx ry ok=>by
 unfold Dl at ok ⊢
 split at ok
 ·rename_i a k
  rw [rep_lst] at rx
  rw [rep_int] at ry
  subst ry
  refine bp (rx) fun p xs hS114 l1 r1=> ?_; subst hS114
  by_cases hz:(decide (-1000000≤k) && decide (k≤1000000) && aL (a.length * k.toNat))=true
  ·rw [if_pos hz]
   simp only [Bool.and_eq_true,decide_eq_true_eq] at hz
   refine (Em p k xs rfl rfl (hs _ _ l1.h) (by omega) (by omega) (by rw [← r1.length]; exact bF hz.2) (fun t ht=>(du _ _ rfl (.new hs ht _) ?_)))
   exact rep_lst.mpr (du t _ rfl (.of ao) ((r1.flat _).mono (Ext.new hs ht _).gg))
  ·rw [if_neg hz] at ok; exact ok.elim
 ·exact ok.elim
noncomputable def Bn (g1 g2:D→D→Res D)(a b:D):Res D:=match g1 a b with
 | .bad=>g2 a b
 | r=>r
theorem DOp.or {f:Value→Value→Sem Value}{g1 g2:D→D→Res D}(h1:DOp X E f g1)(h2:DOp X E f g2):DOp X E f (Bn g1 g2):=by
 intro z s σ G H x y dx dy v u I hs rx ry rv ru ok
 unfold Bn at ok ⊢
 cases q:g1 dx dy with
 | bad=>
  rw [q] at ok
  exact h2 z s σ G H x y dx dy v u I hs rx ry rv ru ok
 | ok d=>
  rw [q] at ok
  have:=h1 z s σ G H x y dx dy v u I hs rx ry rv ru (by rw [q]; exact ok)
  rw [q] at this
  exact this
 | exc c=>
  rw [q] at ok
  have:=h1 z s σ G H x y dx dy v u I hs rx ry rv ru (by rw [q]; exact ok)
  rw [q] at this
  exact this
noncomputable def aO:D→D→Res D:=Bn wB (Bn wC vg)
noncomputable def b_:D→D→Res D:=Bn vV Dl
theorem av:DOp X E (binaryOp .Add) aO:=do_add.or (do_addS.or BK)
theorem bB:DOp X E (binaryOp .Mult) b_:=do_mul.or BL
theorem qP {i j:Int}:aO (.int i) (.int j)= .ok (.int (i+j)):=id rfl
theorem qQ {a b:List D}(h:aL (a.length+b.length)=true):aO (.lst a) (.lst b)= .ok (.lst (a ++ b)):=by
 show vg (.lst a) (.lst b)=_
 exact if_pos h
end
section
variable{X:Cx}{E:XK}{tg:Expr}
end
section
variable{X:Cx}{E:XK}
end
section
variable{X:Cx}{E:XK}
end
section
variable{X:Cx}{E:XK}{pins:List (Addr×Obj)}{σ:St}{H:Hp}{s:Shared}
end
section
variable{X:Cx}{E:XK}{pins:List (Addr×Obj)}{σ:St}{H:Hp}{s:Shared}
end
section
variable{X:Cx}{CX:qy}{k:Nat}{f C:Addr}{fd:FuncData}{ps:List Str}{sp:Sp}{dvs:List V}{ds:List Value}{E:XK}
end
end L2
namespace TX
open PySem PySem.Builtin PySem.Builtin.Str PySem.StrLaws
end TX
namespace L2
open PySem PySem.Spec PyProof.Rows
section
variable{X:Cx}{E:XK}
end
end L2
namespace PySem
open Sem (wp)
end PySem
namespace L2
open PySem PySem.Spec PyProof.Rows
section
variable{X:Cx}{E:XK}{e:Expr}{f:DS→Res D}{p pos:Pos}
theorem uF {g:List D→Res D}:bx (fun ρ=>(f ρ).bind fun d=>(Res.ok []:Res (List D)).bind fun ds=> .ok (d :: ds)) g=fun ρ=>(f ρ).bind fun a=>g [a]:=funext fun ρ=>by
 show ((f ρ).bind _).bind _=_
 cases f ρ <;> rfl
theorem BS {a b:Str}:wv (.str a) (.str b)= .ok (.bl (a == b)):=id rfl
theorem Cg {a b:Str}:vW (.str a) (.str b)= .ok (.bl (!(a == b))):=id rfl
end
mutual
noncomputable def flat:D→Bool
 | .lst _=>false
 | .dct _ _=>false
 | .fdc _ _=>false
 | .scr _=>false
 | .tup l=>flats l
 | .ins _ _ l=>flats l
 | _=>true
noncomputable def flats:List D→Bool
 | []=>true
 | d :: ds=>flat d && flats ds
end
theorem mH:∀ (ns:List Int),flats (ns.map D.int)=true
 | []=>by unfold flats; rfl
 | n :: ns=>by rw [List.map_cons]; unfold flats; rw [mH ns]; unfold flat; rfl
noncomputable def isCell (S:Addr→Prop)(o:HO):Prop:=(∃ xs,o= .lst xs)∨(∃ kvs,o= .dT kvs)∨∃ xs b,o= .tup xs∧V.ref b∈xs∧S b
theorem isCell.mono {S T:Addr→Prop}{o:HO}(k:∀ a,S a→T a)(h:isCell S o):isCell T o:=h.imp id (Or.imp id fun hZ120=>(by refine bp (hZ120) fun xs b e m s=> ?_; exact (du xs b e m (k b s))))
theorem isCell.nokey {S:Addr→Prop}{o:HO}(h:isCell S o):¬ qb o:=by
 intro hZ11
 obtain ⟨ks,rfl⟩:=hZ11
 rcases h with ⟨xs,e⟩ | ⟨kvs,e⟩ | ⟨xs,b,e,m,s⟩
 ·cases e
 ·cases e
 ·cases e
  obtain ⟨k,_,e⟩:=List.mem_map.mp m
  cases k with
  | inl i=>cases e
  | inr x=>cases e
noncomputable def nF (W:Addr→Prop)(G:Hp):Hp:=fun b=> @ite _ (W b) (Classical.propDecidable _) none (G b)
theorem j3 {W:Addr→Prop}{G:Hp}{b:Addr}{o:HO}(h:nF W G b=some o):¬ W b∧G b=some o:=by
 unfold nF at h
 by_cases q:W b
 ·rw [if_pos q] at h; cases h
 ·rw [if_neg q] at h; exact ⟨q,h⟩
theorem pU {W:Addr→Prop}{G:Hp}{b:Addr}{o:HO}(h1:¬ W b)(h2:G b=some o):nF W G b=some o:=by
 unfold nF
 rw [if_neg h1]
 exact h2
theorem Cp {W:Addr→Prop}{G:Hp}{b:Addr}(h1:W b):nF W G b=none:=by
 unfold nF
 rw [if_pos h1]
mutual
theorem Rep.nocell {K:W.Frag}{G:Hp}{W:Addr→Prop}(hl:∀ b o,W b→G b=some o→isCell W o):∀ {d:D} {v:V},L2.flat d=true→Rep K G d v→∀ a,v= .ref a→¬ W a
 | .non,_,_,h,a,e=>by unfold Rep at h; subst h; cases e
 | .bl _,_,_,h,a,e=>by unfold Rep at h; subst h; cases e
 | .int _,_,_,h,a,e=>by unfold Rep at h; subst h; cases e
 | .str _,_,_,h,a,e=>by unfold Rep at h; subst h; cases e
 | .lst ds,_,ha,_,_,_=>by unfold L2.flat at ha; cases ha
 | .dct _ _,_,ha,_,_,_=>by unfold L2.flat at ha; cases ha
 | .fdc _ _,_,ha,_,_,_=>by unfold L2.flat at ha; cases ha
 | .scr _,_,ha,_,_,_=>by unfold L2.flat at ha; cases ha
 | .tup ds,_,ha,h,a,e=>fun w=>by
  unfold Rep at h
  unfold L2.flat at ha
  refine bp (h) fun a' ys r s t=> ?_
  subst r
  cases e
  rcases hl a _ w s.h with ⟨vs,z⟩ | ⟨vs,z⟩ | ⟨vs,b,z,m,wb⟩
  ·cases z
  ·cases z
  ·cases z
   exact RepL.nocell hl ha t (.ref b) m b rfl wb
 | .ins _ _ ds,_,ha,h,a,e=>fun w=>by
  unfold Rep at h
  refine jd (h) fun a' dx fs r s n t=> ?_
  subst r
  cases e
  rcases hl a _ w s with ⟨vs,z⟩ | ⟨vs,z⟩ | ⟨vs,b,z,m,wb⟩ <;> cases z
 | .xc _,_,_,h,a,e=>fun w=>by
  unfold Rep at h
  refine cw (h) fun a' r s _=> ?_
  subst r
  cases e
  rcases hl a _ w s with ⟨vs,z⟩ | ⟨vs,z⟩ | ⟨vs,b,z,m,wb⟩ <;> cases z
theorem RepL.nocell {K:W.Frag}{G:Hp}{W:Addr→Prop}(hl:∀ b o,W b→G b=some o→isCell W o):∀ {ds:List D} {vs:List V},flats ds=true→RepL K G ds vs→∀ v∈vs,∀ a,v= .ref a→¬ W a
 | [],_,_,h,v,m=>by unfold RepL at h; subst h; cases m
 | _ :: _,_,ha,h,v,m=>by
  unfold RepL at h
  unfold flats at ha
  rw [Bool.and_eq_true] at ha
  refine bp (h) fun w r q a b=> ?_
  subst q
  rcases List.mem_cons.mp m with z | z
  ·subst z; exact Rep.nocell hl ha.1 a
  ·exact RepL.nocell hl ha.2 b v z
end
mutual
theorem Rep.lfree {K:W.Frag}{G:Hp}{W:Addr→Prop}(hl:∀ b o,W b→G b=some o→isCell W o):∀ {d:D} {v:V},L2.flat d=true→Rep K G d v→Rep K (nF W G) d v
 | .non,_,_,h=>by unfold Rep at h ⊢; exact h
 | .bl _,_,_,h=>by unfold Rep at h ⊢; exact h
 | .int _,_,_,h=>by unfold Rep at h ⊢; exact h
 | .str _,_,_,h=>by unfold Rep at h ⊢; exact h
 | .lst ds,_,ha,h=>by unfold L2.flat at ha; cases ha
 | .dct _ _,_,ha,h=>by unfold L2.flat at ha; cases ha
 | .fdc _ _,_,ha,h=>by unfold L2.flat at ha; cases ha
 | .scr _,_,ha,h=>by unfold L2.flat at ha; cases ha
 | .tup ds,v,ha,h=>by
  have nc:=Rep.nocell hl ha h
  unfold Rep at h ⊢
  unfold L2.flat at ha
  refine bp (h) fun a ys r s t=> ?_
  exact (du a ys r ⟨pU (nc a r) s.h⟩ (RepL.lfree hl ha t))
 | .ins _ _ ds,v,ha,h=>by
  have nc:=Rep.nocell hl ha h
  unfold Rep at h ⊢
  unfold L2.flat at ha
  refine jd (h) fun a dx fs r s n t=> ?_
  exact (jh a dx fs r (pU (nc a r) s) n (RepL.lfree hl ha t))
 | .xc _,v,ha,h=>by
  have nc:=Rep.nocell hl ha h
  unfold Rep at h ⊢
  refine cw (h) fun a r s k=> ?_
  exact (ik a r (pU (nc a r) s) k)
theorem RepL.lfree {K:W.Frag}{G:Hp}{W:Addr→Prop}(hl:∀ b o,W b→G b=some o→isCell W o):∀ {ds:List D} {vs:List V},flats ds=true→RepL K G ds vs→RepL K (nF W G) ds vs
 | [],_,_,h=>by unfold RepL at h ⊢; exact h
 | _ :: _,_,ha,h=>by
  unfold RepL at h ⊢
  unfold flats at ha
  rw [Bool.and_eq_true] at ha
  refine bp (h) fun v r q a b=> ?_
  exact (du v r q (Rep.lfree hl ha.1 a) (RepL.lfree hl ha.2 b))
end
noncomputable def AllW (P:D→V→List Addr→Prop):List D→List V→List Addr→Prop
 | [],vs,S=>vs=[]∧S=[]
 | d :: ds,vs,S=>∃ v r A B,vs=v :: r∧S=A ++ B∧P d v A∧AllW P ds r B
noncomputable def Ow (K:W.Frag)(G H:Hp):Nat→D→V→List Addr→Prop
 | 0,d,v,S=>S=[]∧Rep K G d v
 | n+1,.lst ds,v,S=>∃ a xs T,v= .ref a∧H a=some (.lst xs)∧S=a :: T∧AllW (Ow K G H n) ds xs T
 | n+1,.dct ks ds,v,S=>∃ a kvs T,v= .ref a∧H a=some (.dT kvs)∧kvs.map (·.1)=ks∧S=a :: T∧AllW (Ow K G H n) ds (kvs.map (·.2)) T
 | n+1,.tup ds,v,S=>(L2.flat (.tup ds)=true∧S=[]∧Rep K G (.tup ds) v)∨∃ a xs T,v= .ref a∧H a=some (.tup xs)∧S=a :: T∧T≠[]∧AllW (Ow K G H n) ds xs T
 | _+1,d,v,S=>L2.flat d=true∧S=[]∧Rep K G d v
noncomputable def d_:Nat→D→Bool
 | 0,d=>L2.flat d
 | n+1,.lst ds=>ds.all (d_ n)
 | n+1,.dct _ ds=>ds.all (d_ n)
 | n+1,.tup ds=>L2.flat (.tup ds) || ds.all (d_ n)
 | _+1,d=>L2.flat d
theorem kL:∀ {ds:List D},flats ds=true→∀ {d:D},d∈ds→L2.flat d=true
 | [],_,_,m=>by cases m
 | d0 :: ds,h,d,m=>by
  unfold flats at h
  rw [Bool.and_eq_true] at h
  rcases List.mem_cons.mp m with z | z
  ·subst z; exact h.1
  ·exact kL h.2 z
theorem vO {d:D}(h:L2.flat d=true):∀ {n:Nat},d_ n d=true
 | 0=>h
 | n+1=>by
  cases d with
  | lst ds=>unfold L2.flat at h; cases h
  | dct ks ds=>unfold L2.flat at h; cases h
  | tup ds=>unfold d_; rw [h]; rfl
  | _=>unfold d_; exact h
section
variable{K:W.Frag}{G H G' H':Hp}
theorem AllW.mono {P Q:D→V→List Addr→Prop}:∀ {ds:List D} {vs:List V} {S:List Addr},(∀ d v A,d∈ds→(∀ a∈A,a∈S)→P d v A→Q d v A)→AllW P ds vs S→AllW Q ds vs S
 | [],_,_,_,h=>h
 | d :: ds,_,_,k,h=>by
  refine o_ (h) fun v r A B e1 e2 h1 h2=> ?_
  subst e2
  exact (mN v r A B e1 rfl (k d v A (List.mem_cons_self ..) (fun a ha=>List.mem_append_left _ ha) h1) (AllW.mono (fun d' v' A' hd ha=>k d' v' A' (cI hd) fun a h=>List.mem_append_right _ (ha a h)) h2))
theorem AllW.length {P:D→V→List Addr→Prop}:∀ {ds:List D} {vs:List V} {S:List Addr},AllW P ds vs S→ds.length=vs.length
 | [],_,_,h=>by rw [h.1]; rfl
 | d :: ds,_,_,h=>by
  refine o_ (h) fun v r A B e1 e2 h1 h2=> ?_
  subst e1
  rw [List.length_cons,List.length_cons,AllW.length h2]
theorem AllW.append {P:D→V→List Addr→Prop}:∀ {ds es:List D} {vs ws:List V} {S T:List Addr},AllW P ds vs S→AllW P es ws T→AllW P (ds ++ es) (vs ++ ws) (S ++ T)
 | [],_,_,_,_,_,h,h'=>by rw [h.1,h.2]; exact h'
 | d :: ds,_,_,_,_,_,h,h'=>by
  refine o_ (h) fun v r A B e1 e2 h1 h2=> ?_
  subst e1 e2
  exact (mN v _ A _ rfl (List.append_assoc ..) h1 (AllW.append h2 h'))
theorem AllW.one {P:D→V→List Addr→Prop}{d:D}{v:V}{S:List Addr}(h:P d v S):AllW P [d] [v] S:=(zG v ([]) S ([]) rfl ((List.append_nil _).symm) h rfl rfl)
theorem AllW.at {P:D→V→List Addr→Prop}:∀ {ds:List D} {vs:List V} {S:List Addr} {i:Nat} {d:D},AllW P ds vs S→ds[i]?=some d→
  ∃ v A L R,vs[i]?=some v∧S=L ++ A ++ R∧P d v A∧(∀ Q:D→V→List Addr→Prop,(∀ d v B,(∀ b∈B,b∈L∨b∈R)→P d v B→Q d v B)→∀ d' v' A',Q d' v' A'→AllW Q (ds.set i d') (vs.set i v') (L ++ A' ++ R))
 | [],_,_,_,_,_,e=>by simp at e
 | d0 :: ds,_,_,0,d,h,e=>by
  refine o_ (h) fun v r A B e1 e2 h1 h2=> ?_
  subst e1 e2
  simp at e; subst e
  refine (mN v A ([]) B rfl (by simp) h1 (fun Q k d' v' A' hq=>(mN v' r A' B rfl (by simp) hq (AllW.mono (fun d v B' _ hb hp=>k d v B' (fun b hb'=> .inr (hb b hb')) hp) h2))))
 | d0 :: ds,_,_,i+1,d,h,e=>by
  refine o_ (h) fun v r A B e1 e2 h1 h2=> ?_
  subst e1 e2
  refine o_ (AllW.at (i:=i) h2 (by simpa using e)) fun w A2 L R g1 g2 g3 g4=> ?_
  refine (mN w A2 (A ++ L) R (by simpa using g1) (by rw [g2]; simp only [List.append_assoc]) g3 (fun Q k d' v' A' hq=>(mN v (r.set i v') A (L ++ A' ++ R) rfl (by simp only [List.append_assoc]) (k d0 v A (fun b hb=> .inl (List.mem_append_left _ hb)) h1) (g4 Q (fun d v B hb hp=>k d v B (fun b hb'=>(hb b hb').imp (List.mem_append_right _) id) hp) d' v' A' hq))))
theorem Ow.mono (sg:Same G G'):∀ {n:Nat} {d:D} {v:V} {S:List Addr},(∀ a∈S,∀ o,H a=some o→H' a=some o)→Ow K G H n d v S→Ow K G' H' n d v S
 | 0,_,_,_,_,h=>⟨h.1,h.2.mono sg⟩
 | n+1,d,_,_,k,h=>by
  cases d with
  | lst ds=>
   refine jd (h) fun a xs T e1 e2 e3 h1=> ?_
   subst e3
   exact (jh a xs T e1 (k a (List.mem_cons_self ..) _ e2) rfl (h1.mono fun d v A _ hA=>Ow.mono sg fun b hb o e=>k b (cI (hA b hb)) o e))
  | dct ks ds=>
   refine iV (h) fun a xs T e1 e2 e4 e3 h1=> ?_
   subst e3
   exact (oA a xs T e1 (k a (List.mem_cons_self ..) _ e2) e4 rfl (h1.mono fun d v A _ hA=>Ow.mono sg fun b hb o e=>k b (cI (hA b hb)) o e))
  | tup ds=>
   rcases h with h | ⟨a,xs,T,e1,e2,e3,e5,h1⟩
   ·exact .inl ⟨h.1,h.2.1,h.2.2.mono sg⟩
   ·subst e3
    exact .inr (oA a xs T e1 (k a (List.mem_cons_self ..) _ e2) rfl e5 (h1.mono fun d v A _ hA=>Ow.mono sg fun b hb o e=>k b (cI (hA b hb)) o e))
  | _=>exact ⟨h.1,h.2.1,h.2.2.mono sg⟩
theorem AllW.rep {P:D→V→List Addr→Prop}{V':Hp}:∀ {ds:List D} {vs:List V} {S:List Addr},(∀ d v A,(∀ a∈A,a∈S)→P d v A→Rep K V' d v)→AllW P ds vs S→RepL K V' ds vs
 | [],_,_,_,h=>by rw [h.1]; exact .nil
 | d :: ds,_,_,k,h=>by
  refine o_ (h) fun v r A B e1 e2 h1 h2=> ?_
  subst e1 e2
  exact .cons (k d v A (fun a ha=>List.mem_append_left _ ha) h1) (AllW.rep (fun d' v' A' ha=>k d' v' A' fun a h=>List.mem_append_right _ (ha a h)) h2)
theorem Ow.rep {V':Hp}(sg:Same G V'):∀ {n:Nat} {d:D} {v:V} {S:List Addr},(∀ a∈S,∀ o,H a=some o→V' a=some o)→Ow K G H n d v S→Rep K V' d v
 | 0,_,_,_,_,h=>h.2.mono sg
 | n+1,d,_,_,k,h=>by
  cases d with
  | lst ds=>
   refine jd (h) fun a xs T e1 e2 e3 h1=> ?_
   subst e3
   exact rep_lst.mpr (du a xs e1 (.of (k a (List.mem_cons_self ..) _ e2)) (h1.rep fun d v A hA=>Ow.rep sg fun b hb o e=>k b (cI (hA b hb)) o e))
  | dct ks ds=>
   refine iV (h) fun a xs T e1 e2 e4 e3 h1=> ?_
   subst e3
   exact rep_dct.mpr (kR a xs e1 (.inl (k a (List.mem_cons_self ..) _ e2)) e4 (h1.rep fun d v A hA=>Ow.rep sg fun b hb o e=>k b (cI (hA b hb)) o e))
  | tup ds=>
   rcases h with h | ⟨a,xs,T,e1,e2,e3,e5,h1⟩
   ·exact h.2.2.mono sg
   ·subst e3
    exact rep_tup.mpr (du a xs e1 (.of (k a (List.mem_cons_self ..) _ e2)) (h1.rep fun d v A hA=>Ow.rep sg fun b hb o e=>k b (cI (hA b hb)) o e))
  | _=>exact h.2.2.mono sg
theorem AllW.cell {P:D→V→List Addr→Prop}{C:Addr→Prop}:∀ {ds:List D} {vs:List V} {S:List Addr},(∀ d v A,P d v A→∀ a∈A,C a)→AllW P ds vs S→∀ a∈S,C a
 | [],_,_,_,h,a,ha=>by rw [h.2] at ha; cases ha
 | d :: ds,_,_,k,h,a,ha=>by
  refine o_ (h) fun v r A B e1 e2 h1 h2=> ?_
  subst e2
  rcases List.mem_append.mp ha with z | z
  ·exact k d v A h1 a z
  ·exact AllW.cell k h2 a z
theorem AllW.hasC {P:D→V→List Addr→Prop}(hP:∀ d v A,P d v A→A≠[]→∃ b,v= .ref b∧b∈A):∀ {ds:List D} {vs:List V} {S:List Addr},AllW P ds vs S→S≠[]→∃ b,V.ref b∈vs∧b∈S
 | [],_,_,h,n=>absurd h.2 n
 | d :: ds,_,_,h,n=>by
  refine o_ (h) fun v r A B e1 e2 h1 h2=> ?_
  subst e1 e2
  by_cases z:A=[]
  ·obtain ⟨b,hb,hb'⟩:=AllW.hasC hP h2 (fun y=>n (by rw [z,y]; rfl))
   exact ⟨b,cI hb,List.mem_append_right _ hb'⟩
  ·obtain ⟨b,e,hb⟩:=hP d v A h1 z
   exact ⟨b,by rw [e]; exact List.mem_cons_self ..,List.mem_append_left _ hb⟩
theorem Ow.head:∀ {n:Nat} {d:D} {v:V} {S:List Addr},Ow K G H n d v S→S≠[]→∃ b,v= .ref b∧b∈S
 | 0,_,_,_,h,n=>absurd h.1 n
 | n+1,d,_,_,h,hn=>by
  cases d with
  | lst ds=>refine jd (h) fun a xs T e1 e2 e3 h1=> ?_; exact ⟨a,e1,by rw [e3]; exact List.mem_cons_self ..⟩
  | dct ks ds=>refine iV (h) fun a xs T e1 e2 e4 e3 h1=> ?_; exact ⟨a,e1,by rw [e3]; exact List.mem_cons_self ..⟩
  | tup ds=>
   rcases h with h | ⟨a,xs,T,e1,e2,e3,e5,h1⟩
   ·exact absurd h.2.1 hn
   ·exact ⟨a,e1,by rw [e3]; exact List.mem_cons_self ..⟩
  | _=>exact absurd h.2.1 hn
theorem AllW.cell2 {P:D→V→List Addr→Prop}{C:(Addr→Prop)→Addr→Prop}(mo:∀ S T a,(∀ b,S b→T b)→C S a→C T a):∀ {ds:List D} {vs:List V} {S:List Addr},(∀ d v A,P d v A→∀ a∈A,C (· ∈A) a)→AllW P ds vs S→∀ a∈S,C (· ∈S) a
 | [],_,_,_,h,a,ha=>by rw [h.2] at ha; cases ha
 | d :: ds,_,_,k,h,a,ha=>by
  refine o_ (h) fun v r A B e1 e2 h1 h2=> ?_
  subst e2
  rcases List.mem_append.mp ha with z | z
  ·exact mo _ _ a (fun b hb=>List.mem_append_left _ hb) (k d v A h1 a z)
  ·exact mo _ _ a (fun b hb=>List.mem_append_right _ hb) (AllW.cell2 mo k h2 a z)
theorem Ow.cell:∀ {n:Nat} {d:D} {v:V} {S:List Addr},Ow K G H n d v S→∀ a∈S,∃ o,H a=some o∧isCell (· ∈S) o
 | 0,_,_,_,h,a,ha=>by rw [h.1] at ha; cases ha
 | n+1,d,_,_,h,b,hb=>by
  have mo:∀ (S T:Addr→Prop) (a:Addr),(∀ b,S b→T b)→(∃ o,H a=some o∧isCell S o)→∃ o,H a=some o∧isCell T o:=fun S T a k hZ121=>(by obtain ⟨o,e,c⟩:=hZ121; exact ⟨o,e,c.mono k⟩)
  have up:∀ {x:Addr} {T:List Addr},(∃ o,H b=some o∧isCell (· ∈T) o)→∃ o,H b=some o∧isCell (· ∈x :: T) o:=fun hZ122=>(by obtain ⟨o,e,c⟩:=hZ122; exact ⟨o,e,c.mono fun a ha=>cI ha⟩)
  cases d with
  | lst ds=>
   refine jd (h) fun a xs T e1 e2 e3 h1=> ?_
   subst e3
   rcases List.mem_cons.mp hb with z | z
   ·subst z; exact ⟨_,e2,.inl ⟨xs,rfl⟩⟩
   ·exact up (h1.cell2 (C:=fun S a=>∃ o,H a=some o∧isCell S o) mo (fun _ _ _ q=>Ow.cell q) b z)
  | dct ks ds=>
   refine iV (h) fun a xs T e1 e2 e4 e3 h1=> ?_
   subst e3
   rcases List.mem_cons.mp hb with z | z
   ·subst z; exact ⟨_,e2,.inr (.inl ⟨xs,rfl⟩)⟩
   ·exact up (h1.cell2 (C:=fun S a=>∃ o,H a=some o∧isCell S o) mo (fun _ _ _ q=>Ow.cell q) b z)
  | tup ds=>
   rcases h with h | ⟨a,xs,T,e1,e2,e3,e5,h1⟩
   ·rw [h.2.1] at hb; cases hb
   ·subst e3
    rcases List.mem_cons.mp hb with z | z
    ·subst z
     obtain ⟨c,hc,hc'⟩:=h1.hasC (fun _ _ _ q=>Ow.head q) e5
     exact ⟨_,e2,.inr (.inr (du xs c rfl hc (cI hc')))⟩
    ·exact up (h1.cell2 (C:=fun S a=>∃ o,H a=some o∧isCell S o) mo (fun _ _ _ q=>Ow.cell q) b z)
  | _=>rw [h.2.1] at hb; cases hb
theorem Ow.hide {W:Addr→Prop}(hl:∀ b o,W b→G b=some o→isCell W o):∀ {n:Nat} {d:D} {v:V} {S:List Addr},d_ n d=true→Ow K G H n d v S→Ow K (nF W G) H n d v S
 | 0,_,_,_,hf,h=>⟨h.1,Rep.lfree hl hf h.2⟩
 | n+1,d,_,_,hf,h=>by
  cases d with
  | lst ds=>
   refine jd (h) fun a xs T e1 e2 e3 h1=> ?_
   unfold d_ at hf
   exact (jh a xs T e1 e2 e3 (h1.mono fun d v A hd _=>Ow.hide hl (List.all_eq_true.mp hf d hd)))
  | dct ks ds=>
   refine iV (h) fun a xs T e1 e2 e4 e3 h1=> ?_
   unfold d_ at hf
   exact (oA a xs T e1 e2 e4 e3 (h1.mono fun d v A hd _=>Ow.hide hl (List.all_eq_true.mp hf d hd)))
  | tup ds=>
   rcases h with h | ⟨a,xs,T,e1,e2,e3,e5,h1⟩
   ·exact .inl ⟨h.1,h.2.1,Rep.lfree hl h.1 h.2.2⟩
   ·refine .inr (oA a xs T e1 e2 e3 e5 (h1.mono fun d v A hd _=>Ow.hide hl ?_))
    unfold d_ at hf
    rw [Bool.or_eq_true] at hf
    rcases hf with z | z
    ·unfold L2.flat at z; exact vO (kL z hd)
    ·exact List.all_eq_true.mp z d hd
  | _=>exact ⟨h.1,h.2.1,Rep.lfree hl h.1 h.2.2⟩
end
noncomputable def ot (fp:Nat→List Addr)(a:Addr):Prop:=∃ i,a∈fp i
noncomputable def nV (fp:Nat→List Addr)(G H:Hp):Hp:=fun b=> @ite _ (ot fp b) (Classical.propDecidable _) (H b) (G b)
structure Rw (K:W.Frag)(μ:List Nat)(Ge B G H:Hp)(σ:St)(ρ:DS)(fp:Nat→List Addr):Prop where
 gh:Same G H
 eg:Same Ge G
 bh:Same B H
 nw:∀ b o,G b=some o→Ge b=some o∨B b=none∨qb o
 gf:∀ i a,a∈fp i→G a=none
 ob:∀ i a,a∈fp i→B a=none
 oc:∀ i a,a∈fp i→∃ o,H a=some o∧isCell (· ∈fp i) o
 nd:∀ i,(fp i).Nodup
 dj:∀ i j a,a∈fp i→a∈fp j→i=j
 sl:∀ i d,ρ[i]?=some (some d)→∃ v,σ[i]?=some (some v)∧Ow K G H (μ.getD i 0) d v (fp i)
section
variable{K:W.Frag}{μ:List Nat}{Ge B G H G' H':Hp}{σ:St}{ρ:DS}{fp:Nat→List Addr}
theorem yI {b:Addr}(h:ot fp b):nV fp G H b=H b:=by unfold nV; rw [if_pos h]
theorem l7 {b:Addr}(h:¬ ot fp b):nV fp G H b=G b:=by unfold nV; rw [if_neg h]
theorem Rw.vh (R:Rw K μ Ge B G H σ ρ fp):Same (nV fp G H) H:=fun b o e=>by
 by_cases q:ot fp b
 ·rw [yI q] at e; exact e
 ·rw [l7 q] at e; exact R.gh b o e
theorem Rw.gv (R:Rw K μ Ge B G H σ ρ fp):Same G (nV fp G H):=fun b o e=>by
 by_cases q:ot fp b
 ·obtain ⟨i,hi⟩:=q; rw [R.gf i b hi] at e; cases e
 ·rw [l7 q]; exact e
theorem Rw.ro (R:Rw K μ Ge B G H σ ρ fp):Ro K (nV fp G H) σ ρ:=fun i d e=>by
 obtain ⟨v,hv,h⟩:=R.sl i d e
 exact ⟨v,hv,h.rep R.gv fun a ha o eo=>by rw [yI ⟨i,ha⟩]; exact eo⟩
noncomputable def f_ (μ:List Nat)(ρ:DS):DS:=ρ.mapIdx fun i o=>if μ.getD i 0=0 then o else none
theorem Rw.rof (R:Rw K μ Ge B G H σ ρ fp):Ro K G σ (f_ μ ρ):=fun i d e=>by
 unfold f_ at e
 rw [List.getElem?_mapIdx] at e
 cases q:ρ[i]? with
 | none=>rw [q] at e; cases e
 | some o=>
  rw [q] at e
  simp only [Option.map_some,Option.some.injEq] at e
  by_cases m:μ.getD i 0=0
  ·rw [if_pos m] at e
   subst e
   obtain ⟨v,hv,h⟩:=R.sl i d q
   rw [m] at h
   exact ⟨v,hv,h.2⟩
  ·rw [if_neg m] at e; cases e
theorem Rw.gg (R:Rw K μ Ge B G H σ ρ fp)(x:Ext (nV fp G H) H G' H'):Same G (nF (ot fp) G'):=fun b o e=>by
 by_cases q:ot fp b
 ·obtain ⟨i,hi⟩:=q; rw [R.gf i b hi] at e; cases e
 ·exact pU q (x.gg b o (R.gv b o e))
theorem Rw.grow (R:Rw K μ Ge B G H σ ρ fp)(x:Ext (nV fp G H) H G' H'):Rw K μ Ge B (nF (ot fp) G') H' σ ρ fp:=by
 refine ⟨fun b o e=>x.gh b o (j3 e).2,R.eg.trans (R.gg x),R.bh.trans x.hh,fun b o e=> ?_,fun i a e=>Cp ⟨i,e⟩,R.ob,fun i a e=> ?_,R.nd,R.dj,fun i d e=> ?_⟩
 ·obtain ⟨n,e1⟩:=j3 e
  rcases x.nw b o e1 with z | z
  ·rw [l7 n] at z; exact R.nw b o z
  ·exact .inr (z.imp R.bh.free id)
 ·obtain ⟨o,h1,h2⟩:=R.oc i a e
  exact ⟨o,x.hh _ _ h1,h2⟩
 ·obtain ⟨v,hv,h⟩:=R.sl i d e
  exact ⟨v,hv,h.mono (R.gg x) fun a _ o ho=>x.hh a o ho⟩
theorem Rw.growF (R:Rw K μ Ge B G H σ ρ fp)(x:Ext G H G' H'):Rw K μ Ge B G' H' σ ρ fp:=by
 refine ⟨x.gh,R.eg.trans x.gg,R.bh.trans x.hh,fun b o e=> ?_,fun i a e=> ?_,R.ob,fun i a e=> ?_,R.nd,R.dj,fun i d e=> ?_⟩
 ·rcases x.nw b o e with z | z
  ·exact R.nw b o z
  ·exact .inr (z.imp R.bh.free id)
 ·cases z:G' a with
  | none=>rfl
  | some o=>
   rcases x.nw a o z with y | y
   ·rw [R.gf i a e] at y; cases y
   ·obtain ⟨o',h,hc⟩:=R.oc i a e
    rcases y with y | y
    ·rw [y] at h; cases h
    ·have h2:=x.gh a o z
     rw [x.hh a _ h] at h2
     cases h2
     exact (hc.nokey y).elim
 ·obtain ⟨o,h1,h2⟩:=R.oc i a e
  exact ⟨o,x.hh _ _ h1,h2⟩
 ·obtain ⟨v,hv,h⟩:=R.sl i d e
  exact ⟨v,hv,h.mono x.gg fun a _ o ho=>x.hh a o ho⟩
theorem Rw.cells (R:Rw K μ Ge B G H σ ρ fp)(x:Ext (nV fp G H) H G' H'):∀ b o,ot fp b→G' b=some o→isCell (ot fp) o:=fun b o ⟨i,hi⟩ e=>by
 obtain ⟨o',h1,h2⟩:=R.oc i b hi
 have h3:=x.gh b o e
 rw [x.hh b _ h1] at h3
 cases h3
 exact h2.mono fun a ha=>⟨i,ha⟩
theorem Rw.put {i:Nat}{d:D}{v:V}{S:List Addr}(R:Rw K μ Ge B G H σ ρ fp)(hi:i < σ.length)(h:Ow K G H (μ.getD i 0) d v S)(nd:S.Nodup)(hS:∀ a∈S,G a=none∧B a=none)(hd:∀ j,j≠i→∀ a∈S,a∉fp j):Rw K μ Ge B G H (σ.set i (some v)) (ρ.set i (some d)) (fun j=>if j=i then S else fp j):=by
 refine ⟨R.gh,R.eg,R.bh,R.nw,fun j a e=> ?_,fun j a e=> ?_,fun j a e=> ?_,fun j=> ?_,fun j k a ej ek=> ?_,fun j e q=> ?_⟩
 ·split at e
  ·exact (hS a e).1
  ·exact R.gf j a e
 ·split at e
  ·exact (hS a e).2
  ·exact R.ob j a e
 ·by_cases hj:j=i
  ·simp only [if_pos hj] at e ⊢; exact h.cell a e
  ·simp only [if_neg hj] at e ⊢; exact R.oc j a e
 ·split
  ·exact nd
  ·exact R.nd j
 ·skip
  split at ej
  ·rename_i z1
   split at ek
   ·rename_i z2; rw [z1,z2]
   ·rename_i z2; exact absurd ek (hd k z2 a ej)
  ·rename_i z1
   split at ek
   ·rename_i z2; exact absurd ej (hd j z1 a ek)
   ·exact R.dj j k a ej ek
 ·by_cases hj:j=i
  ·subst hj
   rw [List.getElem?_set_self'] at q
   cases z:ρ[j]? with
   | none=>rw [z] at q; cases q
   | some o=>
    rw [z] at q; cases q
    rw [if_pos rfl]
    exact ⟨v,List.getElem?_set_self hi,h⟩
  ·rw [List.getElem?_set_ne (Ne.symm hj)] at q ⊢
   rw [if_neg hj]
   exact R.sl j e q
theorem Rw.drop {i:Nat}(R:Rw K μ Ge B G H σ ρ fp):Rw K μ Ge B G H σ (ρ.set i none) (fun j=>if j=i then [] else fp j):=by
 refine ⟨R.gh,R.eg,R.bh,R.nw,fun j a e=> ?_,fun j a e=> ?_,fun j a e=> ?_,fun j=> ?_,fun j k a ej ek=> ?_,fun j e q=> ?_⟩
 ·split at e
  ·cases e
  ·exact R.gf j a e
 ·split at e
  ·cases e
  ·exact R.ob j a e
 ·by_cases hj:j=i
  ·simp only [if_pos hj] at e; cases e
  ·simp only [if_neg hj] at e ⊢; exact R.oc j a e
 ·split
  ·exact List.nodup_nil
  ·exact R.nd j
 ·skip
  split at ej
  ·cases ej
  ·split at ek
   ·cases ek
   ·exact R.dj j k a ej ek
 ·by_cases hj:j=i
  ·subst hj
   rw [List.getElem?_set_self'] at q
   cases z:ρ[j]? with
   | none=>rw [z] at q; cases q
   | some o=>rw [z] at q; cases q
  ·rw [List.getElem?_set_ne (Ne.symm hj)] at q
   rw [if_neg hj]
   exact R.sl j e q
theorem Rw.write {i:Nat}{a:Addr}{ob:HO}{d:D}{v:V}{S:List Addr}(R:Rw K μ Ge B G H σ ρ fp)(ha:a∈fp i)(hv:σ[i]?=some (some v))(h:Ow K G (bg H a ob) (μ.getD i 0) d v S)(nd:S.Nodup)(hS:∀ b∈S,G b=none∧B b=none)(hd:∀ j,j≠i→∀ b∈S,b∉fp j):Rw K μ Ge B G (bg H a ob) σ (ρ.set i (some d)) (fun j=>if j=i then S else fp j):=by
 have nG:∀ {b:Addr} {o:HO},G b=some o→b≠a:=fun e z=>by rw [z,R.gf i a ha] at e; cases e
 have nB:∀ {b:Addr} {o:HO},B b=some o→b≠a:=fun e z=>by rw [z,R.ob i a ha] at e; cases e
 have nj:∀ {j:Nat} {b:Addr},j≠i→b∈fp j→b≠a:=fun N hb z=>by subst z; exact N (R.dj _ i _ hb ha)
 refine ⟨fun b o e=>by rw [ai (nG e)]; exact R.gh b o e,R.eg,fun b o e=>by rw [ai (nB e)]; exact R.bh b o e,R.nw,fun j b e=> ?_,fun j b e=> ?_,fun j b e=> ?_,fun j=> ?_,fun j k b ej ek=> ?_,fun j e q=> ?_⟩
 ·split at e
  ·exact (hS b e).1
  ·exact R.gf j b e
 ·split at e
  ·exact (hS b e).2
  ·exact R.ob j b e
 ·by_cases N:j=i
  ·simp only [if_pos N] at e ⊢; exact h.cell b e
  ·simp only [if_neg N] at e ⊢; rw [ai (nj N e)]; exact R.oc j b e
 ·split
  ·exact nd
  ·exact R.nd j
 ·skip
  split at ej
  ·rename_i z1
   split at ek
   ·rename_i z2; rw [z1,z2]
   ·rename_i z2; exact absurd ek (hd k z2 b ej)
  ·rename_i z1
   split at ek
   ·rename_i z2; exact absurd ej (hd j z1 b ek)
   ·exact R.dj j k b ej ek
 ·by_cases N:j=i
  ·subst N
   rw [List.getElem?_set_self'] at q
   cases z:ρ[j]? with
   | none=>rw [z] at q; cases q
   | some o=>
    rw [z] at q; cases q
    rw [if_pos rfl]
    exact ⟨v,hv,h⟩
  ·rw [List.getElem?_set_ne (Ne.symm N)] at q
   rw [if_neg N]
   obtain ⟨w,hw,hh⟩:=R.sl j e q
   exact ⟨w,hw,hh.mono (.refl _) fun b hb o eo=>by rw [ai (nj N hb)]; exact eo⟩
end
noncomputable def New (H G:Hp)(S:List Addr):Prop:=S.Nodup∧∀ a∈S,H a=none∧G a=none
theorem New.nil {H G:Hp}:New H G []:=⟨List.nodup_nil,fun a h=>by cases h⟩
inductive NQ (X:Cx)(pins:List (Addr×Obj))(σ:St)(G H:Hp)(n:Nat)(o:Res D)(u:Value)(s':Shared):Prop
 | mk (d:D) (e:o= .ok d) (v:V) (G' H':Hp) (S:List Addr) (i:Inv X pins σ H' s') (r:RelV v u) (x:Ext G H G' H') (w:Ow X.K G' H' n d v S) (nw:New H G' S)
inductive ZQ (X:Cx)(pins:List (Addr×Obj))(σ:St)(μ:List Nat)(Ge B G H:Hp)(ρ:DS)(fp:Nat→List Addr)(n:Nat)(o:Res D)(u:Value)(s':Shared):Prop
 | mk (d:D) (e:o= .ok d) (v:V) (G' H':Hp) (S:List Addr) (i:Inv X pins σ H' s') (r:RelV v u) (R:Rw X.K μ Ge B G' H' σ ρ fp) (sg:Same G G') (sh:Same H H') (w:Ow X.K G' H' n d v S) (nw:New H G' S)
noncomputable def PN (X:Cx)(E:XK)(n:Nat)(e:Expr)(f:DS→Res D):Prop:=
 ∀ (pins:List (Addr×Obj)) (s:Shared) (σ:St) (G H:Hp) (ρ:DS),Inv X pins σ H s→Same G H→Ro X.K G σ ρ→OkR E H (f ρ)→
  wpAny (model X.prog X.w) X.A (eval e X.env) (NQ X pins σ G H n (f ρ)) X.xe s
theorem Ext.freeze {K:W.Frag}{G H G' H':Hp}{n:Nat}{d:D}{v:V}{S:List Addr}(hs:Same G H)(x:Ext G H G' H')(w:New H G' S)(h:Ow K G' H' n d v S):∃ G2,Ext G H G2 H'∧Same G' G2∧Rep K G2 d v:=by
 have dec:∀ b,Decidable (b∈S):=fun b=>Classical.propDecidable _
 refine (ik (fun b=>if b∈S then H' b else G' b) ⟨x.hh,fun b o e=> ?_,fun b o e=> ?_,fun b o e=> ?_⟩ (fun b o e=> ?_) (h.rep (fun b o e=> ?_) fun a ha o e=> ?_))
 ·by_cases q:b∈S
  ·have:=(w.2 b q).1; rw [hs b o e] at this; cases this
  ·show (if b∈S then H' b else G' b)=some o
   rw [if_neg q]; exact x.gg b o e
 ·have e:(if b∈S then H' b else G' b)=some o:=e
  by_cases q:b∈S
  ·rw [if_pos q] at e; exact e
  ·rw [if_neg q] at e; exact x.gh b o e
 ·have e:(if b∈S then H' b else G' b)=some o:=e
  by_cases q:b∈S
  ·exact .inr (.inl (w.2 b q).1)
  ·rw [if_neg q] at e; exact x.nw b o e
 ·show (if b∈S then H' b else G' b)=some o
  by_cases q:b∈S
  ·rw [(w.2 b q).2] at e; cases e
  ·rw [if_neg q]; exact e
 ·show (if b∈S then H' b else G' b)=some o
  by_cases q:b∈S
  ·rw [(w.2 b q).2] at e; cases e
  ·rw [if_neg q]; exact e
 ·show (if a∈S then H' a else G' a)=some o
  rw [if_pos ha]; exact e
section
variable{X:Cx}{E:XK}{μ:List Nat}
theorem PN.of {e:Expr}{f:DS→Res D}(h:PD X E e f):PN X E 0 e f:=fun pins s σ G H ρ I hs hr ho=>
 aW (h pins s σ G H ρ I hs hr ho) fun u s' hZ123=>(by obtain ⟨d,e,v,G',H',I',rv,x,rp⟩:=hZ123; exact ⟨d,e,v,G',H',[],I',rv,x,⟨rfl,rp⟩,.nil⟩)
theorem PN.pd {n:Nat}{e:Expr}{f:DS→Res D}(h:PN X E n e f):PD X E e f:=fun pins s σ G H ρ I hs hr ho=>
 aW (h pins s σ G H ρ I hs hr ho) fun u s' hZ124=>by
  refine cps fun PP kP=> ?_
  obtain ⟨d,e,v,G',H',S,I',rv,x,o,w⟩:=hZ124
  refine cw (x.freeze hs w o) fun G2 x2 _ rp=> ?_
  refine kP ?_; clear kP PP
  exact ⟨d,e,v,G2,H',I',rv,x2,rp⟩
noncomputable def PZ (X:Cx)(E:XK)(μ:List Nat)(n:Nat)(e:Expr)(f:DS→Res D):Prop:=
 ∀ (pins:List (Addr×Obj)) (s:Shared) (σ:St) (Ge B G H:Hp) (ρ:DS) (fp:Nat→List Addr),Inv X pins σ H s→Rw X.K μ Ge B G H σ ρ fp→OkR E B (f ρ)→
  wpAny (model X.prog X.w) X.A (eval e X.env) (ZQ X pins σ μ Ge B G H ρ fp n (f ρ)) X.xe s
inductive tZ (K:W.Frag)(E:XK)(μ:List Nat)(n:Nat)(f:DS→Res D)(σ:St)(H:Hp)(Q:VK):Prop
 | mk (Ge B G:Hp) (ρ:DS) (fp:Nat→List Addr) (R:Rw K μ Ge B G H σ ρ fp) (o:OkR E B (f ρ)) (k:∀ d,f ρ= .ok d→∀ v G' H' S,Rw K μ Ge B G' H' σ ρ fp→Same G G'→Same H H'→Ow K G' H' n d v S→New H G' S→Q v H')
theorem tq {n:Nat}{e:Expr}{f:DS→Res D}(h:PZ X E μ n e f):PE X e (tZ X.K E μ n f):=by
 intro pins s σ H Q I hZ12
 obtain ⟨Ge,B,G,ρ,fp,R,ho,k⟩:=hZ12
 exact aW (h pins s σ Ge B G H ρ fp I R ho) fun u s' hZ125=>(by obtain ⟨d,e,v,G',H',S,I',rv,R',sg,sh,o,w⟩:=hZ125; exact ⟨v,H',I',rv,k d e v G' H' S R' sg sh o w⟩)
noncomputable def wx (n:Nat)(f:DS→Res D):DS→Res D:=fun ρ=>(f ρ).bind fun d=>if d_ n d=true then .ok d else .bad
theorem fK {n:Nat}{e:Expr}{f:DS→Res D}(h:PN X E n e f):PZ X E μ n e (wx n f):=by
 intro pins s σ Ge B G H ρ fp I R ho
 refine aW (h pins s σ (nV fp G H) H ρ I R.vh R.ro (ho.fst.le R.bh)) fun u s' hZ126=> ?_
 obtain ⟨d,e,v,G',H',S,I',rv,x,o,w⟩:=hZ126
 have k:=ho.snd e (Same.refl B)
 by_cases hl:d_ n d=true
 ·exact ⟨d,aq e (if_pos hl),v,nF (ot fp) G',H',S,I',rv,R.grow x,R.gg x,x.hh,o.hide (R.cells x) hl,w.1,fun a ha=>⟨(w.2 a ha).1,by
   cases q:nF (ot fp) G' a with
   | none=>rfl
   | some o=>have:=(j3 q).2; rw [(w.2 a ha).2] at this; cases this⟩⟩
 ·rw [if_neg hl] at k; exact k.elim
noncomputable def da (μ:List Nat)(f:DS→Res D):DS→Res D:=fun ρ=>f (f_ μ ρ)
theorem aE {n:Nat}{e:Expr}{f:DS→Res D}(h:PN X E n e f):PZ X E μ n e (da μ f):=by
 intro pins s σ Ge B G H ρ fp I R ho
 exact aW (h pins s σ G H (f_ μ ρ) I R.gh R.rof (ho.le R.bh)) fun u s' hZ127=>(by obtain ⟨d,e,v,G',H',S,I',rv,x,o,w⟩:=hZ127; exact ⟨d,e,v,G',H',S,I',rv,R.growF x,x.gg,x.hh,o,w⟩)
inductive SMn (X:Cx)(μ:List Nat)(Ge B G:Hp)(pins:List (Addr×Obj))(P:DS→Prop)(s':Shared):Prop
 | mk (ρ':DS) (σ':St) (G' H':Hp) (fp':Nat→List Addr) (e:P ρ') (i:Inv X pins σ' H' s') (R:Rw X.K μ Ge B G' H' σ' ρ' fp') (sg:Same G G')
inductive SMr (X:Cx)(r:Nat)(Ge B:Hp)(pins:List (Addr×Obj))(o:Out)(u:Value)(s':Shared):Prop
 | mk (d:D) (v:V) (σ':St) (G' H':Hp) (S:List Addr) (e:o= .rt d) (i:Inv X pins σ' H' s') (rv:RelV v u) (x:Ext Ge B G' H') (w:Ow X.K G' H' r d v S) (nw:New B G' S)
noncomputable def SM (X:Cx)(μ:List Nat)(r:Nat)(Ge B G:Hp)(pins:List (Addr×Obj))(o:Out)(fl:Flow)(s':Shared):Prop:=
 match fl with
 | .next=>SMn X μ Ge B G pins (o= .nx ·) s'
 | .brk=>SMn X μ Ge B G pins (o= .bk ·) s'
 | .cont=>SMn X μ Ge B G pins (o= .ct ·) s'
 | .ret u=>SMr X r Ge B pins o u s'
noncomputable def lJ (X:Cx)(E:XK)(μ:List Nat)(r:Nat)(st:Stmt)(F:DS→Out):Prop:=
 ∀ (pins:List (Addr×Obj)) (s:Shared) (σ:St) (Ge B G H:Hp) (ρ:DS) (fp:Nat→List Addr),Inv X pins σ H s→Rw X.K μ Ge B G H σ ρ fp→OkO E B (F ρ)→
  wpAny (model X.prog X.w) X.A (exec st X.env) (SM X μ r Ge B G pins (F ρ)) X.xe s
noncomputable def t8 (X:Cx)(E:XK)(μ:List Nat)(r:Nat)(sts:List Stmt)(F:DS→Out):Prop:=
 ∀ (pins:List (Addr×Obj)) (s:Shared) (σ:St) (Ge B G H:Hp) (ρ:DS) (fp:Nat→List Addr),Inv X pins σ H s→Rw X.K μ Ge B G H σ ρ fp→OkO E B (F ρ)→
  wpAny (model X.prog X.w) X.A (execs sts X.env) (SM X μ r Ge B G pins (F ρ)) X.xe s
variable{r:Nat}
theorem SM.le {Ge B G G1:Hp}{pins:List (Addr×Obj)}{o:Out}{fl:Flow}{s':Shared}(s:Same G G1)(h:SM X μ r Ge B G1 pins o fl s'):SM X μ r Ge B G pins o fl s':=by
 cases fl with
 | next=>obtain ⟨P,v,G',H',O,e,I,R,t⟩:=h; exact ⟨P,v,G',H',O,e,I,R,s.trans t⟩
 | brk=>obtain ⟨P,v,G',H',O,e,I,R,t⟩:=h; exact ⟨P,v,G',H',O,e,I,R,s.trans t⟩
 | cont=>obtain ⟨P,v,G',H',O,e,I,R,t⟩:=h; exact ⟨P,v,G',H',O,e,I,R,s.trans t⟩
 | ret u=>exact h
theorem bH:t8 X E μ r [] (fun ρ=> .nx ρ):=fun _ _ σ Ge B G H ρ fp I R _=>wpAny_execs_nil ⟨ρ,σ,G,H,fp,rfl,I,R,.refl _⟩
theorem ah {st:Stmt}{rest:List Stmt}{F R:DS→Out}(h1:lJ X E μ r st F)(h2:t8 X E μ r rest R):t8 X E μ r (st :: rest) (ay F R):=by
 intro pins s σ Ge B G H ρ fp I W ho
 refine wpAny_execs_cons (aW (h1 pins s σ Ge B G H ρ fp I W ho.fst) fun fl s1 q=> ?_)
 cases fl with
 | next=>
  obtain ⟨P,t,G',H',O,e,I',W',sg⟩:=q
  refine aW (h2 pins s1 t Ge B G' H' P O I' W' (ho.snd e (.refl _))) fun fl2 s2 q2=> ?_
  have e2:ay F R ρ=R P:=by unfold ay; rw [e]; rfl
  rw [e2]
  exact q2.le sg
 | brk=>obtain ⟨P,t,G',H',O,e,q,q1,q2⟩:=q; exact ⟨P,t,G',H',O,by unfold ay; rw [e]; rfl,q,q1,q2⟩
 | cont=>obtain ⟨P,t,G',H',O,e,q,q1,q2⟩:=q; exact ⟨P,t,G',H',O,by unfold ay; rw [e]; rfl,q,q1,q2⟩
 | ret u=>obtain ⟨d,v,t,G',H',S,e,q,q1,q2,q3,q4⟩:=q; exact ⟨d,v,t,G',H',S,by unfold ay; rw [e]; rfl,q,q1,q2,q3,q4⟩
theorem am {st:Stmt}{F:DS→Out}(h1:lJ X E μ r st F):t8 X E μ r [st] F:=by
 intro pins s σ Ge B G H ρ fp I W ho
 refine wpAny_execs_cons (aW (h1 pins s σ Ge B G H ρ fp I W ho) fun fl s1 q=> ?_)
 cases fl with
 | next=>exact wpAny_execs_nil q
 | brk=>exact q
 | cont=>exact q
 | ret u=>exact q
theorem Rw.apart {K:W.Frag}{Ge B G H:Hp}{σ:St}{ρ:DS}{fp:Nat→List Addr}{S:List Addr}{G':Hp}(R:Rw K μ Ge B G H σ ρ fp)(w:New H G' S):∀ j,∀ a∈S,a∉fp j:=fun j a ha hj=>by
 obtain ⟨o,h,_⟩:=R.oc j a hj
 rw [(w.2 a ha).1] at h; cases h
theorem ax {i:Nat}{x:Str}{e:Expr}{pos' pos:Pos}{f:DS→Res D}(hN:X.N.Nodup)(hi:X.N[i]?=some x)(hx:si X.env.scope x)(h:PZ X E μ (μ.getD i 0) e f)(hf:X.fn x=true∨X.env.scope.names.lookup x=some .local:=by first | exact .inl rfl | exact .inr rfl)
  (hsw:swapsWith e (some (.Name x pos')) pos.line X.env=pure false:=by rfl):lJ X E μ r (.Assign [.Name x pos'] e pos) (aP i f):=by
 intro pins s σ Ge B G H ρ fp I R ho
 have hiσ:i < σ.length:=by rw [I.len]; exact (fG hi).1
 refine aW (Dj (pos:=pos) (pos':=pos') hN hi hx (tq h) hsw hf pins s σ H { nx:=fun σ' H'=>∃ d v G' S,f ρ= .ok d∧σ'=σ.set i (some v)∧Rw X.K μ Ge B G' H' σ ρ fp∧Same G G'∧Ow X.K G' H' (μ.getD i 0) d v S∧New H G' S,bk:=fun _ _=>False,ct:=fun _ _=>False,rt:=fun _ _=>False } I ⟨Ge,B,G,ρ,fp,R,ho.res,fun d e v G' H' S R' sg sh o w=>(zI d v G' S e rfl R' sg o w)⟩) fun fl s1 q=> ?_
 cases fl with
 | next=>
  obtain ⟨σ',H',I',d,v,G',S,e,e2,R',sg,o,w⟩:=q
  subst e2
  exact ⟨_,_,G',H',_,bO e,I',R'.put hiσ o w.1 (fun a ha=>⟨(w.2 a ha).2,R.bh.free (w.2 a ha).1⟩) (fun j _=>R.apart w j),sg⟩
 | brk=>obtain ⟨_,_,_,q⟩:=q; exact q.elim
 | cont=>obtain ⟨_,_,_,q⟩:=q; exact q.elim
 | ret u=>obtain ⟨_,_,_,_,_,q⟩:=q; exact q.elim
theorem uO {e:Expr}{pos:Pos}{f:DS→Res D}(h:PD X E e f)(hs:swapsWith e none pos.line X.env=pure false:=by rfl):lJ X E μ r (.Expr e pos) (um f):=by
 intro pins s σ Ge B G H ρ fp I R ho
 refine aW (fJ (dR h) hs pins s σ H { nx:=fun σ' H'=>∃ d G',f ρ= .ok d∧σ'=σ∧Ext (nV fp G H) H G' H',bk:=fun _ _=>False,ct:=fun _ _=>False,rt:=fun _ _=>False } I ⟨nV fp G H,ρ,R.vh,R.ro,ho.res.le R.bh,fun d e v G' H' x rp=>(du d G' e rfl x)⟩) fun fl s1 q=> ?_
 cases fl with
 | next=>
  obtain ⟨σ',H',I',d,G',e,e2,x⟩:=q
  subst e2
  exact ⟨ρ,_,_,H',fp,bO e,I',R.grow x,R.gg x⟩
 | brk=>obtain ⟨_,_,_,q⟩:=q; exact q.elim
 | cont=>obtain ⟨_,_,_,q⟩:=q; exact q.elim
 | ret u=>obtain ⟨_,_,_,_,_,q⟩:=q; exact q.elim
theorem cC {c:Expr}{a b:List Stmt}{pos:Pos}{fc:DS→Res Bool}{Fa Fb:DS→Out}(hc:va X E c fc)(ha:t8 X E μ r a Fa)(hb:t8 X E μ r b Fb):lJ X E μ r (.If c a b pos) (lC fc Fa Fb):=by
 intro z s σ Ge B G H ρ fp I R ho
 refine wpAny_If (aW (hc z s σ (nV fp G H) H ρ I R.vh R.ro (ho.res.le R.bh)) fun k s1 hZ128=> ?_)
 obtain ⟨e,G1,H1,I1,x1⟩:=hZ128
 have kk:=ho.res2 e (Same.refl B)
 have e0:lC fc Fa Fb ρ=if k=true then Fa ρ else Fb ρ:=bO e
 rw [e0]
 cases k with
 | true=>rw [if_pos rfl] at kk ⊢; exact aW (ha z s1 σ Ge B _ H1 ρ fp I1 (R.grow x1) kk) fun _ _ q=>q.le (R.gg x1)
 | false=>rw [if_neg Bool.false_ne_true] at kk ⊢; exact aW (hb z s1 σ Ge B _ H1 ρ fp I1 (R.grow x1) kk) fun _ _ q=>q.le (R.gg x1)
theorem Rw.ext {K:W.Frag}{Ge B G H:Hp}{σ:St}{ρ:DS}{fp:Nat→List Addr}(R:Rw K μ Ge B G H σ ρ fp):Ext Ge B G H:=⟨R.bh,R.eg,R.gh,R.nw⟩
theorem bj {e:Expr}{pos:Pos}{f:DS→Res D}(h:PZ X E μ r e f):lJ X E μ r (.Return (some e) pos) (ca f):=by
 intro pins s σ Ge B G H ρ fp I R ho
 refine aW (tB (pos:=pos) (tq h) pins s σ H { nx:=fun _ _=>False,bk:=fun _ _=>False,ct:=fun _ _=>False,rt:=fun v H'=>∃ d G' S,f ρ= .ok d∧Rw X.K μ Ge B G' H' σ ρ fp∧Same G G'∧Ow X.K G' H' r d v S∧New H G' S } I ⟨Ge,B,G,ρ,fp,R,ho.res,fun d e v G' H' S R' sg sh o w=>(oA d G' S e R' sg o w)⟩) fun fl s1 q=> ?_
 cases fl with
 | next=>obtain ⟨_,_,_,q⟩:=q; exact q.elim
 | brk=>obtain ⟨_,_,_,q⟩:=q; exact q.elim
 | cont=>obtain ⟨_,_,_,q⟩:=q; exact q.elim
 | ret u=>
  obtain ⟨v,σ',H',I',rv,d,G',S,e,R',sg,o,w⟩:=q
  exact ⟨d,v,σ',G',H',S,bO e,I',rv,R'.ext,o,w.1,fun a ha=>⟨R.bh.free (w.2 a ha).1,(w.2 a ha).2⟩⟩
theorem gZ {i:Nat}{x:Str}{px pos:Pos}(hm:μ.getD i 0=r)(hN:X.N[i]?=some x)(hv:t9 X.env.scope x)(hd:(x == ("__debug__" :Str))=false:=by decide)(hcd:(x == ("__classdict__" :Str))=false:=by decide):lJ X E μ r (.Return (some (.Name x px)) pos) (ca (ab i)):=by
 intro pins s σ Ge B G H ρ fp I R ho
 have hslot:∃ d,ρ[i]?=some (some d)∧ab i ρ= .ok d:=by
  have h:=ho.res
  unfold ab at h
  split at h
  ·rename_i l q; exact ⟨l,q,by unfold ab; rw [q]⟩
  ·exact h.elim
 refine cps fun PP kP=> ?_
 obtain ⟨d,hr,er⟩:=hslot
 obtain ⟨v,h1,o⟩:=R.sl i _ hr
 refine kP ?_; clear kP PP
 rw [hm] at o
 refine aW (tB (pos:=pos) (eY (pos:=px) hN hv hd hcd) pins s σ H { nx:=fun _ _=>False,bk:=fun _ _=>False,ct:=fun _ _=>False,rt:=fun v' H'=>v'=v∧H'=H } I (ik _ h1 rfl rfl)) fun fl s1 q=> ?_
 cases fl with
 | next=>obtain ⟨_,_,_,q⟩:=q; exact q.elim
 | brk=>obtain ⟨_,_,_,q⟩:=q; exact q.elim
 | cont=>obtain ⟨_,_,_,q⟩:=q; exact q.elim
 | ret u=>
  obtain ⟨v',σ',H',I',rv,e2,e3⟩:=q
  subst e2 e3
  exact ⟨d,v',σ',G,H',fp i,bO er,I',rv,R.ext,o,R.nd i,fun a ha=>⟨R.ob i a ha,R.gf i a ha⟩⟩
noncomputable def bI (fc:DS→Res Bool)(F:DS→Out):Nat→DS→Out
 | 0,_=> .bad
 | n+1,ρ=>(fc ρ).out fun b=>if b=true then (match F ρ with
  | .nx ρ'=>bI fc F n ρ'
  | .ct ρ'=>bI fc F n ρ'
  | .bk ρ'=> .nx ρ'
  | .rt d=> .rt d
  | .exc c=> .exc c
  | .bad=> .bad) else .nx ρ
theorem kh (n:Nat){c:Expr}{body:List Stmt}{pos:Pos}{fc:DS→Res Bool}{F:DS→Out}(hp:PassesOwn (model X.prog X.w) X.A X.env X.xe)(hc:va X E c fc)(hb:t8 X E μ r body F):lJ X E μ r (.While c body [] pos) (bI fc F n):=by
 intro z s σ Ge B G H ρ fp I R ho
 refine wpAny_While (codeAny_whileLoop (fun k s'=>∃ σ' G' H' ρ' fp',Inv X z σ' H' s'∧Rw X.K μ Ge B G' H' σ' ρ' fp'∧Same G G'∧bI fc F n ρ=bI fc F k ρ') ?_ n (En σ G H ρ fp I R (.refl _) rfl))
 intro k s1 hZ13
 refine Ht (hZ13) fun σ1 G1 H1 Q fp1 I1 R1 sg1 e1=> ?_
 rw [e1] at ho
 cases k with
 | zero=>exact ho.elim
 | succ k=>
  have ho':OkO E B ((fc Q).out fun b=>if b=true then (match F Q with | .nx ρ'=>bI fc F k ρ' | .ct ρ'=>bI fc F k ρ' | .bk ρ'=> .nx ρ' | .rt d=> .rt d | .exc c=> .exc c | .bad=> .bad) else .nx Q):=ho
  have T:bI fc F (k+1) Q=(fc Q).out fun b=>if b=true then (match F Q with | .nx ρ'=>bI fc F k ρ' | .ct ρ'=>bI fc F k ρ' | .bk ρ'=> .nx ρ' | .rt d=> .rt d | .exc c=> .exc c | .bad=> .bad) else .nx Q:=rfl
  refine wpAny_passesOwn hp (aW (hc z s1 σ1 (nV fp1 G1 H1) H1 Q I1 R1.vh R1.ro (ho'.res.le R1.bh)) fun b s2 hZ129=> ?_)
  obtain ⟨eb,G2,H2,I2,x2⟩:=hZ129
  have kk:=ho'.res2 eb (Same.refl B)
  rw [bO eb] at T
  have R2:=R1.grow x2
  have Y:=sg1.trans (R1.gg x2)
  cases b with
  | true=>
   rw [if_pos rfl] at kk T ⊢
   have kF:OkO E B (F Q):=by
    cases q:F Q with
    | exc c=>rw [q] at kk; exact kk
    | bad=>rw [q] at kk; exact kk
    | _=>trivial
   refine wpAny_passesOwn hp (aW (hb z s2 σ1 Ge B _ H2 Q fp1 I2 R2 kF) fun f s3 q3=> ?_)
   cases f with
   | next=>
    obtain ⟨U,S,G3,H3,V,e3,I3,R3,W⟩:=q3
    rw [e3] at T
    exact (E_ k (Nat.lt_succ_self k) S G3 H3 U V I3 R3 (Y.trans W) (e1.trans T))
   | cont=>
    obtain ⟨U,S,G3,H3,V,e3,I3,R3,W⟩:=q3
    rw [e3] at T
    exact (E_ k (Nat.lt_succ_self k) S G3 H3 U V I3 R3 (Y.trans W) (e1.trans T))
   | brk=>
    obtain ⟨U,S,G3,H3,V,e3,I3,R3,W⟩:=q3
    rw [e3] at T
    exact ⟨U,S,G3,H3,V,e1.trans T,I3,R3,Y.trans W⟩
   | ret u=>
    obtain ⟨d,v,S,G3,H3,S3,e3,q3,q4,q5,q6,q7⟩:=q3
    rw [e3] at T
    exact ⟨d,v,S,G3,H3,S3,e1.trans T,q3,q4,q5,q6,q7⟩
  | false=>
   rw [if_neg Bool.false_ne_true] at kk T ⊢
   exact wpAny_execs_nil ⟨Q,σ1,_,H2,fp1,e1.trans T,I2,R2,Y⟩
end
inductive freshSp (K:W.Frag)(r:Nat)(m:List D→Res D)(vs:List V)(H:Hp)(Q:VK)(E:XK):Prop
 | mk (ds:List D) (G:Hp) (s:Same G H) (rl:RepL K G ds vs) (o:OkR E H (m ds)) (k:∀ d,m ds= .ok d→∀ v G' H' S,Ext G H G' H'→Ow K G' H' r d v S→New H G' S→Q v H')
section
variable{P:Program}{w:World}{K:W.Frag}{mg:Str→Option Value}{base:Heap}{r:Nat}
theorem Fun.fresh {x qual:Str}{st:Stmt}{f:Addr}{fd:FuncData}{N ps:List Str}{k:Nat}{m:List D→Res D}(F:Fun K x qual st f fd)(S:FnScope N ps (ag st))(μ:List Nat)(hμ:∀ i,i < ps.length→μ.getD i 0=0)(len:∀ ds,m ds≠ .bad→ds.length=ps.length)
  (hbody:∀ (cdv:Value) (A:Around) (outer:List Env) (s:Shared) (H:Hp) (E:XK),Room k (A.deeper (envOfC qual (ag st) s.heap.objs.size f cdv))→
   ∃ Fb,t8 (wz P w K mg base N qual (ag st) f cdv A outer s H E) E μ r (cG st) Fb∧∀ ds,m ds≠ .bad→fv (Fb (aH N ds))=m ds):FnOk P w K mg base (CXF P w) (k+1) f fd ps (freshSp K r m):=by
 have nb:∀ {E:XK} {H:Hp} {r:Res D},OkR E H r→r≠ .bad:=fun h z=>by rw [z] at h; exact h
 refine AU (F.ex) fun oc od kV doc pm an cdv ct osl hS115 lk hcd=> ?_; subst hS115
 refine w9 lk hcd S (fun vs H Q E hZ130=>(by obtain ⟨ds,G,_,rl,L,_⟩:=hZ130; rw [← rl.length]; exact len ds (nb L))) fun A outer s H vs Q E hr hsp=> ?_
 refine cps fun PP kP=> ?_
 obtain ⟨ds,G,hs,rl,L,k⟩:=hsp
 obtain ⟨Fb,hb,hm⟩:=hbody cdv A outer s H E hr
 refine kP ?_; clear kP PP
 have J:=hm ds (nb L)
 have hlen:=len ds (nb L)
 have hoO:OkO E H (Fb (aH N ds)):=by
  rw [← J] at L
  cases q:Fb (aH N ds) with
  | exc c=>rw [q] at L; exact L
  | bad=>rw [q] at L; exact L
  | _=>trivial
 have zero:∀ i d,(aH N ds)[i]?=some (some d)→μ.getD i 0=0:=fun i d e=>by
  refine hμ i ?_
  unfold aH at e
  by_cases hi:i < ds.length
  ·omega
  ·rw [List.getElem?_append_right (by simpa using hi),List.getElem?_replicate] at e
   split at e <;> cases e
 have R0:Rw K μ G H G H (fM N vs) (aH N ds) (fun _=>[]):=by
  refine ⟨hs,.refl _,.refl _,fun b o e=> .inl e,fun i a e=>(by cases e),fun i a e=>(by cases e),fun i a e=>(by cases e),fun i=>List.nodup_nil,fun i j a e=>(by cases e),fun i d e=> ?_⟩
  obtain ⟨v,hv,rv⟩:=rN rl i d e
  rw [zero i d e]
  exact (ik v hv rfl rv)
 refine ⟨fun D σ H1=>(σ=fM N vs∧H1=H∧(D.nx=fun _ M=>Q .non M)∧D.rt=Q),?_,rfl,rfl,rfl,rfl⟩
 intro pins s1 σ H1 D I hZ14
 refine r_ (hZ14) fun e1 e2 e3 e4=> ?_
 subst e1 e2
 refine aW (hb pins s1 _ G H1 G H1 (aH N ds) _ I R0 hoO) fun fl s2 q=> ?_
 cases fl with
 | next=>
  obtain ⟨ρ',t,G',M,fp',e,I',R,_⟩:=q
  refine ⟨t,M,I',?_⟩
  rw [e3]
  have hn:m ds= .ok .non:=by rw [← J,e]; rfl
  cases r with
  | zero=>exact k .non hn .non G' M [] R.ext ⟨rfl,rep_non.mpr rfl⟩ .nil
  | succ r=>exact k .non hn .non G' M [] R.ext ⟨by unfold L2.flat; rfl,rfl,rep_non.mpr rfl⟩ .nil
 | brk=>
  obtain ⟨ρ',t,G',M,fp',e,_⟩:=q
  rw [e] at J
  exact absurd J.symm (nb L)
 | cont=>
  obtain ⟨ρ',t,G',M,fp',e,_⟩:=q
  rw [e] at J
  exact absurd J.symm (nb L)
 | ret u=>
  obtain ⟨d,v,t,G',M,S,e,I',rv,x,o,w⟩:=q
  refine ⟨v,t,M,I',rv,?_⟩
  rw [e4]
  exact k d (by rw [← J,e]; rfl) v G' M S x o w
end
inductive tZI (K:W.Frag)(E:XK)(μ:List Nat)(fi:DS→Res (List D))(σ:St)(H:Hp)(R:It→Hp→Prop):Prop
 | mk (Ge B G:Hp) (ρ:DS) (fp:Nat→List Addr) (w:Rw K μ Ge B G H σ ρ fp) (o:OkR E B (fi ρ)) (k:∀ ds,fi ρ= .ok ds→∀ J G' H',Rw K μ Ge B G' H' σ ρ fp→Same G G'→yR K J ds G'→R J H')
noncomputable def GD (K:W.Frag)(μ:List Nat)(n:Nat)(g:TG)(asg:D→DS→Option DS):Prop:=
 ∀ (Ge B G H:Hp) (σ:St) (ρ ρ':DS) (fp:Nat→List Addr) (v:V) (d:D),σ.length=n→Rw K μ Ge B G H σ ρ fp→Rep K G d v→asg d ρ=some ρ'→g v σ H fun σ' H'=>H'=H∧∃ fp',Rw K μ Ge B G H σ' ρ' fp'
noncomputable def bb (j:Nat):D→DS→Option DS:=fun d ρ=>some (ρ.set j (some d))
noncomputable def fq (j k:Nat):D→DS→Option DS
 | .tup [a,b],ρ=>some ((ρ.set j (some a)).set k (some b))
 | _,_=>none
section
variable{X:Cx}{E:XK}{μ:List Nat}{r:Nat}{tg:Expr}
theorem Rw.set0 {K:W.Frag}{Ge B G H:Hp}{σ:St}{ρ:DS}{fp:Nat→List Addr}{i:Nat}{d:D}{v:V}(R:Rw K μ Ge B G H σ ρ fp)(hi:i < σ.length)(m:μ.getD i 0=0)(h:Rep K G d v):Rw K μ Ge B G H (σ.set i (some v)) (ρ.set i (some d)) (fun j=>if j=i then [] else fp j):=
 R.put hi (by rw [m]; exact ⟨rfl,h⟩) List.nodup_nil (fun a h=>by cases h) fun j _ a h=>by cases h
theorem zB {K:W.Frag}{n j:Nat}(hj:j < n)(m:μ.getD j 0=0):GD K μ n (bY j) (bb j):=by
 intro Ge B G H σ ρ ρ' fp v d hl R h e
 cases e
 exact ⟨rfl,_,R.set0 (by rw [hl]; exact hj) m h⟩
theorem Cn {K:W.Frag}{n j k:Nat}(hj:j < n)(hk:k < n)(m:μ.getD j 0=0)(m':μ.getD k 0=0):GD K μ n (vE K 2 (iI (bY j) (iI (bY k) vC))) (fq j k):=by
 intro Ge B G H σ ρ ρ' fp v d hl R h e
 unfold fq at e
 split at e
 ·rename_i a b
  cases e
  rw [rep_tup] at h
  refine cps fun PP kP=> ?_
  obtain ⟨p,xs,rfl,t,rl⟩:=h
  obtain ⟨x,q,rfl,rx,rl⟩:=rl.inv
  obtain ⟨y,q,rfl,ry,rl⟩:=rl.inv
  refine kP ?_; clear kP PP
  have:=rl.inv0; subst this
  have R2:=(R.set0 (by rw [hl]; exact hj) m rx).set0 (i:=k) (by rw [List.length_set,hl]; exact hk) m' ry
  exact ⟨p,[x,y],rfl,(show TpS K H p _ from ⟨R.gh _ _ t.h⟩).sq,rfl,x,[y],rfl,y,[],rfl,rfl,rfl,_,R2⟩
 ·cases e
noncomputable def dJ (asg:D→DS→Option DS)(F:DS→Out):List D→DS→Out
 | [],ρ=> .nx ρ
 | d :: ds,ρ=>match asg d ρ with
  | none=> .bad
  | some ρ1=>match F ρ1 with
   | .nx ρ'=>dJ asg F ds ρ'
   | .ct ρ'=>dJ asg F ds ρ'
   | .bk ρ'=> .nx ρ'
   | .rt d=> .rt d
   | .exc c=> .exc c
   | .bad=> .bad
noncomputable def im (fi:DS→Res (List D))(asg:D→DS→Option DS)(F:DS→Out):DS→Out:=fun ρ=>(fi ρ).out fun ds=>dJ asg F ds ρ
theorem xZ {pos:Pos}{iter:Expr}{body:List Stmt}{g:TG}{asg:D→DS→Option DS}{fi:DS→Res (List D)}{F:DS→Out}(hp:PassesOwn (model X.prog X.w) X.A X.env X.xe)(hc:X.calm=true)(hg:PG X tg g)(hgd:GD X.K μ X.N.length g asg)(hi:PI X tg iter (tZI X.K E μ fi))(hb:t8 X E μ r body F)
  (hs:∀ x,foldedSetIterable iter X.env x=pure x:=by intro _; rfl):lJ X E μ r (.For tg iter body [] pos) (im fi asg F):=by
 intro z s σ Ge B G H C fp I R ho
 refine wpAny_For (aW (hi z s σ H _ I ⟨Ge,B,G,C,fp,R,ho.res,fun Y e J G1 H1 R1 sg src=>(show (fun (J:It) (H1:Hp)=>∃ Y G1,fi C= .ok Y∧Rw X.K μ Ge B G1 H1 σ C fp∧Same G G1∧yR X.K J Y G1) J H1 from (kR Y G1 e R1 sg src))⟩) fun v s1 h1=>aW h1 fun itv s2 h2=> ?_) hs
 obtain ⟨it,ip,tn,J,H2,e,I2,T,st2,f2,Y,G2,eds,R2,sg2,src⟩:=h2
 subst e
 have kk:OkO E B (dJ asg F Y C):=ho.res2 eds (Same.refl B)
 have e0:im fi asg F C=dJ asg F Y C:=bO eds
 rw [e0]
 have p:∀ {H':Hp},(∀ b∈ip,H' b=none)→∀ b∈ip,iA X z H' b:=fun hn b hb=>⟨hn b hb,(f2 b hb).2⟩
 refine codeAny_forLoop_any (fun n s'=>∃ i σ' G' H' ρ' fp',n=Y.length - i∧i≤Y.length∧Inv X z σ' H' s'∧tn i s'.heap∧(∀ b∈ip,H' b=none)∧Rw X.K μ Ge B G' H' σ' ρ' fp'∧Same G2 G'∧dJ asg F Y C=dJ asg F (Y.drop i) ρ') ?_ Y.length
  (Eo 0 σ G2 H2 C fp rfl (Nat.zero_le _) I2 st2 (fun b hb=>(f2 b hb).1) R2 (.refl _) rfl)
 intro n s3 hZ15
 refine Hu (hZ15) fun i S G3 H3 U fp3 hS116 hi3 I3 st3 fr3 R3 V h=> ?_; subst hS116
 obtain ⟨sg,ss⟩:=src G3 H3 V R3.gh i
 by_cases hlt:i < Y.length
 ·obtain ⟨go,yl⟩:=sg Y[i] (by simp [hlt])
  have hdrop:Y.drop i=Y[i] :: Y.drop (i+1):=by rw [List.getElem_cons_drop]
  rw [hdrop] at h
  refine wpAny_passesOwn hp (aW (T.item X rfl rfl rfl hc i z s3 S H3 X.xe I3 (p fr3) st3 go) fun r s4 hZ131=> ?_)
  obtain ⟨u,hr4,h4⟩:=hZ131
  subst hr4
  refine wpAny_passesOwn hp (aW h4 fun _ s5 hZ132=> ?_)
  refine DE (hZ132) fun xv H5 I5 r5 y5 st5 fr5=> ?_
  obtain ⟨G5,x5,rp5⟩:=yl xv H5 y5
  have I5':=I5.pinned (p fr5) (T.obj _ _ st5)
  have R5:=R3.growF x5
  have M:OkO E B (dJ asg F (Y[i] :: Y.drop (i+1)) U):=by rw [← h]; exact kk
  rw [dJ] at M
  rw [dJ] at h
  cases qa:asg Y[i] U with
  | none=>rw [qa] at M; exact M.elim
  | some ρ6=>
  rw [qa] at M h
  dsimp only at M h
  refine wpAny_passesOwn hp (aW (hg _ s5 S H5 xv u _ I5' r5 (hgd Ge B G5 H5 S U ρ6 fp3 xv _ I5.len R5 rp5 qa)) fun _ s6 hZ133=> ?_)
  obtain ⟨σ6,H6,I6,e6,fp6,R6⟩:=hZ133
  subst e6
  have kk6:OkO E B (F ρ6):=by
   cases q:F ρ6 with
   | exc c=>rw [q] at M; exact M
   | bad=>rw [q] at M; exact M
   | _=>trivial
  refine wpAny_passesOwn hp (aW (hb _ s6 _ Ge B G5 H6 _ _ I6 R6 kk6) fun f s7 q7=> ?_)
  have l:∀ {Z:St} {y L:Hp} {a:DS} {k:Nat→List Addr},Inv X (z ++ m_ ip s5.heap) Z L s7→Rw X.K μ Ge B y L Z a k→Same G5 y→dJ asg F Y C=dJ asg F (Y.drop (i+1)) a→∃ m,m < Y.length - i∧∃ i σ' G' H' ρ' fp',m=Y.length - i∧i≤Y.length∧Inv X z σ' H' s7∧tn i s7.heap∧(∀ b∈ip,H' b=none)∧Rw X.K μ Ge B G' H' σ' ρ' fp'∧Same G2 G'∧dJ asg F Y C=dJ asg F (Y.drop i) ρ':=fun {Z y L a k} t R7 j O=>by
   refine (Ep (Y.length - (i+1)) (by omega) (i+1) Z y L a k rfl hlt t.unpinned (T.keep _ _ _ st5 fun b hb o e=>(t.pin (b,o) (List.mem_append_right _ (List.mem_append_right _ (gX hb e)))).1) (fun b hb=> ?_) R7 ((V.trans x5.gg).trans j) O)
   obtain ⟨o,e,d⟩:=T.obj _ _ st5 b hb
   exact (t.pin (b,o) (List.mem_append_right _ (List.mem_append_right _ (gX hb e)))).2.1
  cases f with
  | next=>obtain ⟨a,Z,y,L,k,O,t,R7,j⟩:=q7; rw [O] at h; exact l t R7 j h
  | cont=>obtain ⟨a,Z,y,L,k,O,t,R7,j⟩:=q7; rw [O] at h; exact l t R7 j h
  | brk=>
   obtain ⟨a,Z,y,L,k,O,t,R7,j⟩:=q7
   rw [O] at h
   exact ⟨a,Z,y,L,k,h,t.unpinned,R7,((sg2.trans V).trans x5.gg).trans j⟩
  | ret v=>
   obtain ⟨d,v7,Z,y,L,S7,O,t,q7,q8,q9,q10⟩:=q7
   rw [O] at h
   exact ⟨d,v7,Z,y,L,S7,h,t.unpinned,q7,q8,q9,q10⟩
 ·have hie:i=Y.length:=by omega
  subst hie
  refine wpAny_passesOwn hp (aW (T.done X rfl rfl rfl hc Y.length z s3 S H3 X.xe I3 (p fr3) st3 (ss (Nat.le_refl _))) fun r s4 hZ134=> ?_)
  obtain ⟨hr4,I4⟩:=hZ134
  subst hr4
  rw [List.drop_length] at h
  exact wpAny_execs_nil ⟨U,S,G3,H3,fp3,h,I4,R3,sg2.trans V⟩
noncomputable def xb (μ:List Nat)(fi:DS→Res (List D)):DS→Res (List D):=fun ρ=>fi (f_ μ ρ)
theorem eA {iter:Expr}{fi:DS→Res (List D)}(h:PI X tg iter (tDI X.K E fi)):PI X tg iter (tZI X.K E μ (xb μ fi)):=by
 intro pins s σ H Q I hZ16
 obtain ⟨Ge,B,G,ρ,fp,R,ho,k⟩:=hZ16
 exact h pins s σ H Q I ⟨G,f_ μ ρ,R.gh,R.rof,ho.le R.bh,fun ds e J G' H' x src=>k ds e J G' H' (R.growF x) x.gg src⟩
theorem pb {a:Expr}{p pos:Pos}{fs:DS→Res (List D)}(hg:Gl X "range")(hm:X.mg "range" =none)(ha:lI X E [a] fs)(hs:starEach [a] X.env=[(false,eval a X.env)]:=by rfl):PI X tg (.Call (.Name "range" p) [a] [] pos) (tZI X.K E μ (fun ρ=>(fs ρ).bind tF)):=by
 intro pins s σ H Q I hZ17
 obtain ⟨Ge,B,G,ρ,fp,R,ho,k⟩:=hZ17
 refine oR hg hm (iO ha) hs pins s σ H Q I ⟨nV fp G H,ρ,R.vh,R.ro,ho.fst.le R.bh,fun ds e vs G1 H1 x1 p1=> ?_⟩
 have kk:=ho.snd e (Same.refl B)
 unfold tF at kk
 split at kk
 ·rename_i j
  refine bp (p1.inv) fun v q hS117 rv r0=> ?_; subst hS117
  rw [r0.inv0]
  rw [rep_int] at rv; subst rv
  by_cases hj:cM j=true
  ·have hj':=hj
   unfold cM at hj'
   rw [Bool.and_eq_true] at hj'
   exact (zH j rfl (of_decide_eq_true hj'.1) (of_decide_eq_true hj'.2) (k _ (aq e (if_pos hj)) _ _ H1 (R.grow x1) (R.gg x1) (lc 0 j.toNat)))
  ·rw [if_neg hj] at kk; exact kk.elim
 ·exact kk.elim
theorem i_ {x:Str}{px pos:Pos}{iter:Expr}{body:List Stmt}{j:Nat}{fi:DS→Res (List D)}{F:DS→Out}(hp:PassesOwn (model X.prog X.w) X.A X.env X.xe)(hc:X.calm=true)(hN:X.N.Nodup)(hj:X.N[j]?=some x)(hx:si X.env.scope x)(hm:μ.getD j 0=0)(hi:PI X (.Name x px) iter (tZI X.K E μ fi))(hb:t8 X E μ r body F)
  (hf:X.fn x=true∨X.env.scope.names.lookup x=some .local:=by first | exact .inl rfl | exact .inr rfl) (hs:∀ x,foldedSetIterable iter X.env x=pure x:=by intro _; rfl):lJ X E μ r (.For (.Name x px) iter body [] pos) (im fi (bb j) F):=
 xZ hp hc (ee hN hj hx hf) (zB (fG hj).1 hm) hi hb hs
theorem gY {x y:Str}{px py pt pos:Pos}{kt:Nat}{iter:Expr}{body:List Stmt}{j k:Nat}{fi:DS→Res (List D)}{F:DS→Out}(hp:PassesOwn (model X.prog X.w) X.A X.env X.xe)(hc:X.calm=true)(hN:X.N.Nodup)(hj:X.N[j]?=some x)(hk:X.N[k]?=some y)(hx:si X.env.scope x)(hy:si X.env.scope y)(hm:μ.getD j 0=0)(hm':μ.getD k 0=0)(hi:PI X (.Tuple [.Name x px,.Name y py] kt pt) iter (tZI X.K E μ fi))(hb:t8 X E μ r body F)
  (hf:X.fn x=true∨X.env.scope.names.lookup x=some .local:=by first | exact .inl rfl | exact .inr rfl) (hf':X.fn y=true∨X.env.scope.names.lookup y=some .local:=by first | exact .inl rfl | exact .inr rfl) (hs:∀ x,foldedSetIterable iter X.env x=pure x:=by intro _; rfl):lJ X E μ r (.For (.Tuple [.Name x px,.Name y py] kt pt) iter body [] pos) (im fi (fq j k) F):=
 xZ hp hc (tu hc (gq (ee hN hj hx hf) (gq (ee hN hk hy hf') qh))) (Cn (fG hj).1 (fG hk).1 hm hm') hi hb hs
end
section
variable{X:Cx}{pins:List (Addr×Obj)}{σ:St}{H:Hp}{s:Shared}{h':Heap}
theorem Inv.turnedL {t':Nat}{ch:List Addr}(I:Inv X pins σ H s)(hf:∀ b∈ch,iA X pins H b)(k:∀ b o,b∉ch→s.heap.get? b=some o→h'.get? b=some o):Inv X pins σ H { s with heap:=h',toks:=t' }:=by
 have nit:∀ b u,H b=some u→b∉ch:=fun b u e z=>by rw [(hf b z).1] at e; cases e
 refine I.step (g':=s.gens) (d':=s.drawn) (ch:=ch) (fun b hb=> ?_) (fun b o _ _ hc e _=>k b o hc e) (fun b o _ _ hc e _=>⟨o.slots,k b o hc e⟩) (fun _ _ _ _ n=>n)
  (fun b o hc e=>⟨o,k b o hc e⟩) (fun _ _ e=>e) (fun _ _ _ e=>e) (fun b ps e=>⟨#[],by rw [e]; simp⟩) (fun m hm=> ?_) (fun b u e=> ?_) I.bare
 ·refine nW (hf b hb) fun f0 f1 f2 f3 f4 f5=> ?_
  exact (nH f3 f1 f4 f5)
 ·refine yL (hm) fun o es ep ho r=> ?_
  exact (vJ o es ep (k _ o (fun z=>(hf _ z).2.1 rfl) ho) r)
 ·refine (I.hok b u e).stay (fun c v hc q=>k c v ?_ q) (fun _ q=>q) fun _ _ q=>q
  rcases hc with z | z
  ·rw [z]; exact nit b u e
  ·exact nit c _ z
theorem Inv.track {p:Addr}{o:HO}(I:Inv X pins σ H s)(hp:iA X pins H p)(new:ObjOk X.prog X.w (bg H p o) s.heap p o):Inv X pins σ (bg H p o) s:=by
 have hn:=hp.1
 have I':=I.step (g':=s.gens) (d':=s.drawn) (t':=s.toks) (h':=s.heap) (H':=bg H p o) (ch:=[p]) (fun b hb=>by
   have e:b=p:=by simpa using hb
   subst e
   refine nW (hp) fun f0 f1 f2 f3 f4 f5=> ?_
   exact (nH f3 f1 f4 f5)) (fun b o _ _ hc e _=>e) (fun b o _ _ hc e _=>⟨o.slots,e⟩) (fun b u hc e n=>by rw [ai (fun z=>hc (by simp [z]))]; exact n)
  (fun b o hc e=>⟨o,e⟩) (fun b xs e=>by rw [ai (aw e hn)]; exact e) (fun b o u e=>by rw [ai (aw e hn)]; exact e) (fun b ps e=>⟨#[],by rw [ai (aw e hn),e]; simp⟩) (fun m hm=>hm) (fun b u e=>by
   by_cases hb:b=p
   ·subst hb; rw [ao] at e; cases e; exact new
   ·rw [ai hb] at e
    exact (I.hok b u e).stay (fun c v _ q=>q) (fun c q=>by rw [ai (aw q hn)]; exact q) fun c xs q=>by rw [ai (aw q hn)]; exact q) I.bare
 exact I'
end
noncomputable def Gi (K:W.Frag)(a:Addr):It:=
 ⟨fun i H=>∃ xs x,gs K H a xs∧xs[i]?=some x,fun i H x H'=>∃ p y,H p=none∧x= .ref p∧H'=bg H p (.tup [.int i,y])∧∀ xs,gs K H a xs→xs[i]?=some y,fun i H=>∃ xs,gs K H a xs∧xs.length≤i⟩
theorem wm {P:Program}{w:World}{K:W.Frag}{elts:List Expr}{x1:Nat}{tp:Pos}(a e it:Addr)(hne:e≠it):Turn P w K (.Tuple elts x1 tp) (Gi K a) [e,it] e (fun i h=>(∃ old,IsEnum h e it (i:Nat) old)∧h.IsListIter it a i) where
 mem:=by simp
 obj:=fun i h t b q=>by
  refine Hv (t) fun hS118 o j c d=> ?_; obtain ⟨old,r⟩:=hS118
  rcases List.mem_cons.mp q with z | z
  ·subst z; exact ⟨_,r,fun v z=>by cases z⟩
  ·have z:b=it:=by simpa using z
   subst z; exact ⟨o,j,fun v z=>by rw [d] at z; cases z⟩
 keep:=fun i h h' ⟨⟨old,r⟩,t⟩ k=>⟨⟨old,k e (by simp) _ r⟩,t.at fun o e=>k it (by simp) o e⟩
 item:=by
  intro X hP hw hK hc i A s σ H E I hf t hg
  subst hP hw hK
  refine cps fun PP kP=> ?_
  obtain ⟨⟨old,r⟩,m⟩:=t
  refine lh (hg) fun xs x hq hx=> ?_
  refine cw (I.list hq) fun its rv p hz=> ?_
  obtain ⟨u,hu,ru⟩:=rv.get hx
  refine kP ?_; clear kP PP
  have hlt:∀ b∈[e,it],b≠s.heap.objs.size:=fun b q z=>by
   refine cw (m) fun o j c d=> ?_
   rcases List.mem_cons.mp q with y | y
   ·rw [y] at z; exact absurd (Heap.lt_size r) (by rw [z]; exact Nat.lt_irrefl _)
   ·have y:b=it:=by simpa using y
    rw [y] at z; exact absurd (Heap.lt_size j) (by rw [z]; exact Nat.lt_irrefl _)
  have hfr:=I.hok.fresh (Nat.le_refl s.heap.objs.size)
  have hfp:iA X A H s.heap.objs.size:=I.fpOk (Nat.le_refl _) hfr
  refine wpAny_pyNext_enum_item r m p.isList (x:=u) (by simpa using hu) hne fun h1 he1 hit1 ht1 hz1 hk1=>⟨_,rfl,?_⟩
  refine wpAny_letOwnedTupleGo_enum he1 fun h2 he2 l=> ?_
  have l:Heap.SameBut e h1 h2:=l
  have I1:Inv X A σ H { s with heap:=h2,toks:=s.toks+1 }:=I.turnedL (t':=s.toks+1) (ch:=[e,it]) hf fun b o q j=>by
   have b1:b≠e:=fun z=>q (by simp [z])
   have b2:b≠it:=fun z=>q (by simp [z])
   exact l.extBut b o b1 (hk1 b o b1 b2 j)
  have ht2:h2.get? s.heap.objs.size=some { cls:= .type "tuple",data:= .seq #[.int i s.toks,u] }:=l.extBut _ _ (Ne.symm (hlt e (by simp))) ht1
  have I2:=Inv.track (o:= .tup [.int i,x]) I1 hfp (Fc (by show 2≤sizeLine; decide) ([.int i s.toks,u]) (.cons ⟨_,rfl⟩ (.cons ru .nil)) _ ht2 rfl _ rfl)
  refine (sK (.ref s.heap.objs.size) _ I2 rfl (kR _ x hfr rfl rfl (fun ys hy=>by rw [I.list_inj hy hq]; exact hx)) ⟨⟨u,?_⟩,hit1.at fun o j=>l.extBut _ o (Ne.symm hne) j⟩ (fun b q=> ?_))
  ·have:(((i+1:Nat):Int))=(i:Int)+1:=by push_cast; rfl
   rw [this]; exact he2
  ·rw [ai (hlt b q)]; exact (hf b q).1
 done:=by
  intro X hP hw hK hc i A s σ H E I hf t hg
  subst hP hw hK
  refine cps fun PP kP=> ?_
  obtain ⟨⟨old,r⟩,m⟩:=t
  obtain ⟨xs,hq,hx⟩:=hg
  refine cw (I.list hq) fun its rv p hz=> ?_
  refine kP ?_; clear kP PP
  have hl:=rv.length
  exact wpAny_pyNext_enum_end (I.ok.hd hc) r m p.isList (by simp; omega) fun h1 hk=>⟨rfl,I.turnedL (t':=s.toks) (ch:=[e,it]) hf fun b o q j=>hk b o (fun z=>q (by simp [z])) j⟩
 self:=fun _ _ _ _ _ t h=>by
  obtain ⟨⟨old,r⟩,_⟩:=t
  exact wpAny_pyIter_enum r h
theorem yX:bootBuiltins "enumerate" =some (.type "enumerate"):=by decide +kernel
theorem BG:bootBuiltins "zip" =some (.type "zip"):=by decide +kernel
section
variable{X:Cx}{E:XK}{elts:List Expr}{x1:Nat}{tp:Pos}
noncomputable def Ef (K:W.Frag)(ta:TA):TI:=fun σ H R=>ta σ H fun xs H1=>∃ a,xs=[.ref a]∧(∃ ys,gs K H1 a ys)∧R (Gi K a) H1
theorem Ag {a:Expr}{ta:TA}{p pos:Pos}(hg:Gl X "enumerate")(hm:X.mg "enumerate" =none)(ha:PA X [a] ta)(hs:starEach [a] X.env=[(false,eval a X.env)]:=by rfl):PI X (.Tuple elts x1 tp) (.Call (.Name "enumerate" p) [a] [] pos) (Ef X.K ta):=by
 intro pins s σ H R I h
 refine Call_ (kW I hg hm yX (PyProof.Rows.callWith_type1 (aW (ha pos pins s σ H _ I h) fun us s1 hZ135=> ?_) hs rfl))
 refine cps fun PP kP=> ?_
 obtain ⟨vs,H1,I1,r1,q1⟩:=hZ135
 refine cw (q1) fun l e hS119 q=> ?_; obtain ⟨ys,hq⟩:=hS119
 refine kP ?_; clear kP PP
 subst e
 cases r1 with
 | cons r rr=>
  cases rr
  cases r
  refine cw (I1.list hq) fun its rv pp hz=> ?_
  refine call_enumerate_list pp.isList fun h2 he hit hz2 hk=> ?_
  refine wpAny_pyIter_enum (s:={ s1 with heap:=h2 }) he ⟨s1.heap.objs.size+1,[s1.heap.objs.size+1,s1.heap.objs.size],_,_,H1,rfl,I1.kept (t':=s1.toks) hk,wm l _ _ (Nat.succ_ne_self _),⟨⟨.none,he⟩,hit⟩,fun b hb=> ?_,q⟩
  have hb':s1.heap.objs.size≤b:=by
   rcases List.mem_cons.mp hb with z | z
   ·rw [z]; exact Nat.le_succ _
   ·have z:b=s1.heap.objs.size:=by simpa using z
    rw [z]; exact Nat.le_refl _
  exact I1.fpOk hb' (I1.hok.fresh hb')
noncomputable def bP:Nat→List D→List D
 | _,[]=>[]
 | k,d :: ds=> .tup [.int k,d] :: bP (k+1) ds
theorem jk:∀ (k:Nat) (l:List D) (i:Nat),(bP k l)[i]?=(l[i]?).map fun d=> .tup [.int ((k+i:Nat):Int),d]
 | _,[],i=>by unfold bP; simp
 | k,d :: ds,0=>by unfold bP; simp
 | k,d :: ds,i+1=>by
  unfold bP
  rw [List.getElem?_cons_succ,List.getElem?_cons_succ,jk (k+1) ds i]
  have:k+1+i=k+(i+1):=by omega
  rw [this]
theorem jl:∀ (k:Nat) (l:List D),(bP k l).length=l.length
 | _,[]=>rfl
 | k,d :: ds=>by unfold bP; rw [List.length_cons,List.length_cons,jl]
theorem yt {K:W.Frag}{G:Hp}{a:Addr}{xs:List V}{ds:List D}(sq:gs K G a xs)(rl:RepL K G ds xs):yR K (Gi K a) (bP 0 ds) G:=by
 intro G2 H2 g1 g2 i
 have sq2:gs K H2 a xs:=g2.seq (g1.seq sq)
 refine ⟨fun d hd=> ?_,fun hl=>⟨xs,sq2,by rw [jl,rl.length] at hl; exact hl⟩⟩
 rw [jk] at hd
 cases q:ds[i]? with
 | none=>rw [q] at hd; cases hd
 | some d0=>
  rw [q] at hd
  cases hd
  obtain ⟨v,hv,rv⟩:=rl.get q
  refine ⟨(kQ xs v sq2 hv),fun y H' hZ136=> ?_⟩
  refine nZ (hZ136) fun p z hp e1 e2 h=> ?_
  subst e1 e2
  have q:=h xs sq2
  rw [hv] at q; cases q
  have x:=Ext.new g2 hp (.tup [.int i,v])
  refine ⟨_,x,rep_tup.mpr (du p _ rfl (.of ao) (.cons (rep_int.mpr (by rw [Nat.zero_add])) (.cons (rv.mono (g1.trans x.gg)) .nil)))⟩
noncomputable def qN:List D→Res (List D)
 | [.lst l]=> .ok (bP 0 l)
 | _=> .bad
theorem dM {a:Expr}{p pos:Pos}{fs:DS→Res (List D)}(hg:Gl X "enumerate")(hm:X.mg "enumerate" =none)(ha:lI X E [a] fs)(hs:starEach [a] X.env=[(false,eval a X.env)]:=by rfl):PI X (.Tuple elts x1 tp) (.Call (.Name "enumerate" p) [a] [] pos) (tDI X.K E (fun ρ=>(fs ρ).bind qN)):=by
 intro pins s σ H R I hZ18
 obtain ⟨G,ρ,hsm,hro,ho,k⟩:=hZ18
 refine Ag hg hm (iO ha) hs pins s σ H R I ⟨G,ρ,hsm,hro,ho.fst,fun ds e vs G1 H1 x1 p1=> ?_⟩
 have kk:=ho.snd e x1.hh
 unfold qN at kk
 split at kk
 ·rename_i l
  refine bp (p1.inv) fun v r hS120 rv r0=> ?_; subst hS120
  rw [r0.inv0]
  rw [rep_lst] at rv
  refine bp (rv) fun b xs hS121 sq rl=> ?_; subst hS121
  exact (ik b rfl ⟨xs,x1.gh.seq sq.sq⟩ (k _ (aq e rfl) _ G1 H1 x1 (yt sq.sq rl)))
 ·exact kk.elim
end
noncomputable def Gj (a b:Addr):It:=
 ⟨fun i H=>∃ xs ys x y,H a=some (.lst xs)∧H b=some (.lst ys)∧xs[i]?=some x∧ys[i]?=some y,fun i H x H'=>∃ p y z,H p=none∧x= .ref p∧H'=bg H p (.tup [y,z])∧(∀ xs,H a=some (.lst xs)→xs[i]?=some y)∧∀ ys,H b=some (.lst ys)→ys[i]?=some z,
  fun i H=>∃ xs ys,H a=some (.lst xs)∧H b=some (.lst ys)∧(xs.length≤i∨ys.length≤i)⟩
noncomputable def DP (z TI TO i1 i2 a b:Addr)(i:Nat)(h:Heap):Prop:=IsZip h z TI TO .none∧IsPair h TI (.ref i1) (.ref i2)∧(∃ x y,IsPair h TO x y)∧h.IsListIter i1 a i∧h.IsListIter i2 b i
structure ZApart (z TI TO i1 i2:Addr):Prop where
 TIz:TI≠z
 TOz:TO≠z
 i1z:i1≠z
 i2z:i2≠z
 TITO:TI≠TO
 TIi1:TI≠i1
 TIi2:TI≠i2
 TOi1:TO≠i1
 TOi2:TO≠i2
 i12:i1≠i2
theorem pc {X:Cx}{pins:List (Addr×Obj)}{H:Hp}{a b z TI TO i1 i2:Addr}{xs ys:List V}(D:ZApart z TI TO i1 i2)(hf:∀ b∈[z,TI,TO,i1,i2],iA X pins H b)(hq:H a=some (.lst xs))(hq':H b=some (.lst ys)):ZipApart z TI TO i1 i2 a b:=
 have na:∀ {l:Addr} {zs:List V},H l=some (.lst zs)→∀ c∈[z,TI,TO,i1,i2],l≠c:=fun hl c hc e=>by rw [e,(hf c hc).1] at hl; cases hl
 ⟨D.TIz,D.TOz,D.i1z,D.i2z,D.TITO,D.TIi1,D.TIi2,D.TOi1,D.TOi2,D.i12,na hq z (by simp),na hq TO (by simp),na hq i1 (by simp),na hq i2 (by simp),na hq' z (by simp),na hq' TO (by simp),na hq' i1 (by simp),na hq' i2 (by simp)⟩
theorem yE {P:Program}{w:World}{K:W.Frag}{elts:List Expr}{x1:Nat}{tp:Pos}(a b z TI TO i1 i2:Addr)(D:ZApart z TI TO i1 i2):Turn P w K (.Tuple elts x1 tp) (Gj a b) [z,TI,TO,i1,i2] z (DP z TI TO i1 i2 a b) where
 mem:=by simp
 obj:=fun i h st c A=>by
  refine cps fun PP C=> ?_
  refine qx (st) fun hz q hS122 hS123 hS124=> ?_; obtain ⟨x,y,r⟩:=hS122; obtain ⟨o1,e1,c1,d1⟩:=hS123; obtain ⟨o2,e2,c2,d2⟩:=hS124
  refine C ?_; clear C PP
  simp only [List.mem_cons,List.not_mem_nil,or_false] at A
  rcases A with rfl | rfl | rfl | rfl | rfl
  ·exact ⟨_,hz,fun v z=>by cases z⟩
  ·exact ⟨_,q,fun v z=>by cases z⟩
  ·exact ⟨_,r,fun v z=>by cases z⟩
  ·exact ⟨o1,e1,fun v z=>by rw [d1] at z; cases z⟩
  ·exact ⟨o2,e2,fun v z=>by rw [d2] at z; cases z⟩
 keep:=fun i h h' ⟨hz,q,⟨x,y,r⟩,h1,h2⟩ k=>⟨k z (by simp) _ hz,k TI (by simp) _ q,⟨x,y,k TO (by simp) _ r⟩,h1.at fun o e=>k i1 (by simp) o e,h2.at fun o e=>k i2 (by simp) o e⟩
 item:=by
  intro X hP hw hK A i G s σ H E I hf st hg
  subst hP hw hK
  refine cps fun PP C=> ?_
  refine qx (st) fun hz q hS125 h1 h2=> ?_; obtain ⟨u0,w0,r⟩:=hS125
  refine o_ (hg) fun xs ys x y hq B hx hy=> ?_
  refine cw (I.list (.inl (.inl hq))) fun its rv p _=> ?_
  refine cw (I.list (.inl (.inl B))) fun its' rv' p' _=> ?_
  obtain ⟨u,hu,ru⟩:=rv.get hx
  obtain ⟨u',hu',ru'⟩:=rv'.get hy
  refine C ?_; clear C PP
  have DD:=pc D hf hq B
  have hfr:=I.hok.fresh (Nat.le_refl s.heap.objs.size)
  have hfp:iA X G H s.heap.objs.size:=I.fpOk (Nat.le_refl _) hfr
  have lt:∀ {c:Addr} {o:Obj},s.heap.get? c=some o→c≠s.heap.objs.size:=fun e=>Nat.ne_of_lt (Heap.lt_size e)
  have hlt:∀ c∈[z,TI,TO,i1,i2],c≠s.heap.objs.size:=fun c A=>by
   refine cps fun PP C=> ?_
   obtain ⟨o1,e1,_⟩:=h1
   obtain ⟨o2,e2,_⟩:=h2
   refine C ?_; clear C PP
   simp only [List.mem_cons,List.not_mem_nil,or_false] at A
   rcases A with rfl | rfl | rfl | rfl | rfl
   ·exact lt hz
   ·exact lt q
   ·exact lt r
   ·exact lt e1
   ·exact lt e2
  refine wpAny_pyNext_zip_item DD hz q r h1 h2 p.isList p'.isList (x:=u) (y:=u') (by simpa using hu) (by simpa using hu') fun h3 a1 a2 a3 a4 a5 a6 hk=>⟨_,rfl,?_⟩
  refine wpAny_letOwnedTupleGo_zip a1 fun h4 hz4 t=> ?_
  have t:Heap.SameBut z h3 h4:=t
  have I1:Inv X G σ H { s with heap:=h4,toks:=s.toks }:=I.turnedL (t':=s.toks) (ch:=[z,TI,TO,i1,i2]) hf fun c o A e1=>by
   have n:∀ d∈[z,TI,TO,i1,i2],c≠d:=fun d hd z=>A (by rw [z]; exact hd)
   exact t.extBut c o (n z (by simp)) (hk c o (n z (by simp)) (n TO (by simp)) (n i1 (by simp)) (n i2 (by simp)) e1)
  have ht2:h4.get? s.heap.objs.size=some { cls:= .type "tuple",data:= .seq #[u,u'] }:=t.extBut _ _ (Ne.symm (hlt z (by simp))) a5
  have I2:=Inv.track (o:= .tup [x,y]) I1 hfp (Fc (by show 2≤sizeLine; decide) ([u,u']) (.cons ru (.cons ru' .nil)) _ ht2 rfl _ rfl)
  refine (sK (.ref s.heap.objs.size) _ I2 rfl (oA _ x y hfr rfl rfl (fun zs F=>by rw [hq] at F; cases F; exact hx) (fun zs F=>by rw [B] at F; cases F; exact hy)) (sJ hz4 (t.extBut _ _ D.TIz (hk _ _ D.TIz D.TITO D.TIi1 D.TIi2 q)) ⟨_,_,t.extBut _ _ D.TOz a2⟩ (a3.at fun o e=>t.extBut _ o D.i1z e) (a4.at fun o e=>t.extBut _ o D.i2z e)) (fun c A=> ?_))
  rw [ai (hlt c A)]; exact (hf c A).1
 done:=by
  intro X hP hw hK A i G s σ H E I hf st hg
  subst hP hw hK
  refine cps fun PP C=> ?_
  refine qx (st) fun hz q hS126 h1 h2=> ?_; obtain ⟨u0,w0,r⟩:=hS126
  refine bp (hg) fun xs ys hq B hx=> ?_
  refine cw (I.list (.inl (.inl hq))) fun its rv p _=> ?_
  refine cw (I.list (.inl (.inl B))) fun its' rv' p' _=> ?_
  refine C ?_; clear C PP
  have hl:=rv.length
  have hl':=rv'.length
  exact wpAny_pyNext_zip_end (I.ok.hd A) (pc D hf hq B) hz q r h1 h2 p.isList p'.isList (hx.imp (fun hx=>by simp; omega) (fun hx=>by simp; omega)) fun h3 hk=>⟨rfl,I.turnedL (t':=s.toks) (ch:=[z,TI,TO,i1,i2]) hf fun c o A e1=>by
   have n:∀ d∈[z,TI,TO,i1,i2],c≠d:=fun d hd z=>A (by rw [z]; exact hd)
   exact hk c o (n z (by simp)) (n TO (by simp)) (n i1 (by simp)) (n i2 (by simp)) e1⟩
 self:=fun _ _ _ _ _ st h=>wpAny_pyIter_zip st.1 h
section
variable{X:Cx}{E:XK}{elts:List Expr}{x1:Nat}{tp:Pos}
noncomputable def GA (ta:TA):TI:=fun σ H R=>ta σ H fun xs H1=>∃ a b,xs=[.ref a,.ref b]∧(∃ ys,H1 a=some (.lst ys))∧(∃ ys,H1 b=some (.lst ys))∧R (Gj a b) H1
theorem De {a b:Expr}{ta:TA}{p pos:Pos}(hg:Gl X "zip")(hm:X.mg "zip" =none)(ha:PA X [a,b] ta)(hs:starEach [a,b] X.env=[(false,eval a X.env),(false,eval b X.env)]:=by rfl)(hs2:starEach [b] X.env=[(false,eval b X.env)]:=by rfl):PI X (.Tuple elts x1 tp) (.Call (.Name "zip" p) [a,b] [] pos) (GA ta):=by
 intro pins s σ H R I h
 refine Call_ (kW I hg hm BG (PyProof.Rows.callWith_type1 (aW (ha pos pins s σ H _ I h) fun us t hZ137=> ?_) (by rw [hs,hs2]) (by rw [hs2]; rfl)))
 refine cps fun PP kP=> ?_
 obtain ⟨vs,H1,I1,r1,q1⟩:=hZ137
 refine nZ (q1) fun l m e hS127 hS128 q=> ?_; obtain ⟨ys,hq⟩:=hS127; obtain ⟨zs,hq'⟩:=hS128
 refine kP ?_; clear kP PP
 subst e
 cases r1 with
 | cons r rr=>
  cases rr with
  | cons r' rr=>
  cases rr
  cases r
  cases r'
  refine cw (I1.list (.inl (.inl hq))) fun its rv pp hz=> ?_
  refine cw (I1.list (.inl (.inl hq'))) fun its' rv' pp' hz'=> ?_
  refine call_zip_2 pp.isList pp'.isList fun h2 b1 b2 b3 b4 b5 b6 hk=> ?_
  have D:ZApart (t.heap.objs.size+4) (t.heap.objs.size+2) (t.heap.objs.size+3) t.heap.objs.size (t.heap.objs.size+1):=by
   generalize t.heap.objs.size=n
   exact ⟨by show (n+2:Nat)≠n+4; omega,by show (n+3:Nat)≠n+4; omega,by show (n:Nat)≠n+4; omega,by show (n+1:Nat)≠n+4; omega,by show (n+2:Nat)≠n+3; omega,by show (n+2:Nat)≠n; omega,by show (n+2:Nat)≠n+1; omega,by show (n+3:Nat)≠n; omega,by show (n+3:Nat)≠n+1; omega,by show (n:Nat)≠n+1; omega⟩
  refine wpAny_pyIter_zip (s:={ t with heap:=h2 }) b1 ⟨t.heap.objs.size+4,[t.heap.objs.size+4,t.heap.objs.size+2,t.heap.objs.size+3,t.heap.objs.size,t.heap.objs.size+1],_,_,H1,rfl,I1.kept (t':=t.toks) hk,yE l m _ _ _ _ _ D,(sJ b1 b2 ⟨_,_,b3⟩ b4 b5),fun c hc=> ?_,q⟩
  have hb':t.heap.objs.size≤c:=by
   simp only [List.mem_cons,List.not_mem_nil,or_false] at hc
   rcases hc with rfl | rfl | rfl | rfl | rfl
   ·exact Nat.le_add_right _ _
   ·exact Nat.le_add_right _ _
   ·exact Nat.le_add_right _ _
   ·exact Nat.le_refl _
   ·exact Nat.le_add_right _ _
  exact I1.fpOk hb' (I1.hok.fresh hb')
noncomputable def jf:List D→List D→List D
 | a :: as,b :: bs=> .tup [a,b] :: jf as bs
 | _,_=>[]
theorem se:∀ (l m:List D) (i:Nat) (d:D),(jf l m)[i]?=some d→∃ a b,l[i]?=some a∧m[i]?=some b∧d= .tup [a,b]
 | [],_,i,d,h=>by unfold jf at h; simp at h
 | _ :: _,[],i,d,h=>by unfold jf at h; simp at h
 | a :: as,b :: bs,0,d,h=>by unfold jf at h; simp at h; exact (du a b rfl rfl h.symm)
 | a :: as,b :: bs,i+1,d,h=>by
  unfold jf at h
  refine bp (se as bs i d (by simpa using h)) fun x y h1 h2 h3=> ?_
  exact (du x y (by simpa using h1) (by simpa using h2) h3)
theorem sf:∀ (l m:List D),(jf l m).length=min l.length m.length
 | [],_=>by unfold jf; simp
 | _ :: _,[]=>by unfold jf; simp
 | a :: as,b :: bs=>by unfold jf; rw [List.length_cons,List.length_cons,List.length_cons,sf]; omega
theorem AJ {K:W.Frag}{G:Hp}{a b:Addr}{xs ys:List V}{ds es:List D}(sq:LsS K G a xs)(rl:RepL K G ds xs)(sq':LsS K G b ys)(rl':RepL K G es ys):yR K (Gj a b) (jf ds es) G:=by
 intro G2 H2 g1 g2 i
 have s2:=g2 _ _ (g1 _ _ sq.h)
 have s2':=g2 _ _ (g1 _ _ sq'.h)
 refine ⟨fun d hd=> ?_,fun hl=>(du xs ys s2 s2' (by rw [sf,rl.length,rl'.length] at hl; omega))⟩
 refine cps fun PP kP=> ?_
 refine bp (se _ _ _ _ hd) fun d1 d2 q1 q2 e=> ?_
 subst e
 obtain ⟨v,hv,rv⟩:=rl.get q1
 obtain ⟨v',hv',rv'⟩:=rl'.get q2
 refine kP ?_; clear kP PP
 refine ⟨(mN xs ys v v' s2 s2' hv hv'),fun y H' hZ138=> ?_⟩
 refine iV (hZ138) fun p z z' hp e1 e2 h h'=> ?_
 subst e1 e2
 have q:=h xs s2
 rw [hv] at q; cases q
 have q:=h' ys s2'
 rw [hv'] at q; cases q
 have x:=Ext.new g2 hp (.tup [v,v'])
 exact ⟨_,x,rep_tup.mpr (du p _ rfl (.of ao) (.cons (rv.mono (g1.trans x.gg)) (.cons (rv'.mono (g1.trans x.gg)) .nil)))⟩
noncomputable def sd:List D→Res (List D)
 | [.lst l,.lst m]=> .ok (jf l m)
 | _=> .bad
theorem qi {a b:Expr}{p pos:Pos}{fs:DS→Res (List D)}(hg:Gl X "zip")(hm:X.mg "zip" =none)(ha:lI X E [a,b] fs)(hs:starEach [a,b] X.env=[(false,eval a X.env),(false,eval b X.env)]:=by rfl)(hs2:starEach [b] X.env=[(false,eval b X.env)]:=by rfl):PI X (.Tuple elts x1 tp) (.Call (.Name "zip" p) [a,b] [] pos) (tDI X.K E (fun ρ=>(fs ρ).bind sd)):=by
 intro pins s σ H R I hZ19
 obtain ⟨G,ρ,hsm,hro,ho,k⟩:=hZ19
 refine De hg hm (iO ha) hs hs2 pins s σ H R I ⟨G,ρ,hsm,hro,ho.fst,fun ds e vs G1 H1 x1 p1=> ?_⟩
 have kk:=ho.snd e x1.hh
 unfold sd at kk
 split at kk
 ·rename_i l m
  refine cps fun PP kP=> ?_
  refine bp (p1.inv) fun v r hS129 rv r0=> ?_; subst hS129
  refine bp (r0.inv) fun v' r' hS130 rv' r0'=> ?_; subst hS130
  refine kP ?_; clear kP PP
  rw [r0'.inv0]
  rw [rep_lst] at rv rv'
  refine cps fun PP kP=> ?_
  refine bp (rv) fun b1 xs hS131 sq rl=> ?_; subst hS131
  refine bp (rv') fun b2 ys hS132 sq' rl'=> ?_; subst hS132
  refine kP ?_; clear kP PP
  exact (kR b1 b2 rfl ⟨xs,x1.gh _ _ sq.h⟩ ⟨ys,x1.gh _ _ sq'.h⟩ (k _ (aq e rfl) _ G1 H1 x1 (AJ sq rl sq' rl')))
 ·exact kk.elim
end
inductive tN (K:W.Frag)(E:XK)(n:Nat)(f:DS→Res D)(σ:St)(H:Hp)(Q:VK):Prop
 | mk (G:Hp) (ρ:DS) (s:Same G H) (r:Ro K G σ ρ) (o:OkR E H (f ρ)) (k:∀ d,f ρ= .ok d→∀ v G' H' S,Ext G H G' H'→Ow K G' H' n d v S→New H G' S→Q v H')
noncomputable def TN (K:W.Frag)(E:XK)(n:Nat)(f:DS→Res D)(te:TE):Prop:=
 ∀ (σ:St) (G H:Hp) (ρ:DS) (Q:VK),Same G H→Ro K G σ ρ→OkR E H (f ρ)→(∀ d,f ρ= .ok d→∀ v G' H' S,Ext G H G' H'→Ow K G' H' n d v S→New H G' S→Q v H')→te σ H Q
theorem Ext.hnew {G H G' H':Hp}{p:Addr}(x:Ext G H G' H')(hp:H' p=none)(o:HO):Ext G H G' (bg H' p o):=
 ⟨fun b u e=>by rw [ai (aw (x.hh b u e) hp)]; exact x.hh b u e,x.gg,fun b u e=>by rw [ai (aw (x.gh b u e) hp)]; exact x.gh b u e,x.nw⟩
theorem New.step {H G2 H2 G3 H3:Hp}{S:List Addr}(w:New H G2 S)(hc:∀ a∈S,∃ o,H2 a=some o∧¬ qb o)(x:Ext G2 H2 G3 H3):New H G3 S:=⟨w.1,fun a ha=>⟨(w.2 a ha).1,by
 cases q:G3 a with
 | none=>rfl
 | some o=>
  rcases x.nw a o q with z | z
  ·rw [(w.2 a ha).2] at z; cases z
  ·obtain ⟨o',h,hk⟩:=hc a ha
   rcases z with z | z
   ·rw [z] at h; cases h
   ·have h2:=x.gh a o q
    rw [x.hh a _ h] at h2
    cases h2
    exact (hk z).elim⟩⟩
theorem New.join {H H2 G:Hp}{S T:List Addr}(w:New H G S)(w':New H2 G T)(hc:∀ a∈S,∃ o,H2 a=some o∧¬ qb o)(sh:Same H H2):New H G (S ++ T):=by
 refine ⟨List.nodup_append.mpr ⟨w.1,w'.1,fun a ha b hb e=> ?_⟩,fun a ha=> ?_⟩
 ·subst e
  obtain ⟨o,h,_⟩:=hc a ha
  rw [(w'.2 a hb).1] at h; cases h
 ·rcases List.mem_append.mp ha with z | z
  ·exact w.2 a z
  ·exact ⟨sh.free (w'.2 a z).1,(w'.2 a z).2⟩
theorem AllW.has {K:W.Frag}{G H:Hp}{n:Nat}{ds:List D}{vs:List V}{S:List Addr}(h:AllW (Ow K G H n) ds vs S):∀ a∈S,∃ o,H a=some o∧¬ qb o:=h.cell fun d v A q a ha=>let ⟨o,e,c⟩:=q.cell a ha; ⟨o,e,c.nokey⟩
section
variable{X:Cx}{E:XK}{μ:List Nat}{r n:Nat}
theorem Ad {e:Expr}{f:DS→Res D}(h:PN X E n e f):PE X e (tN X.K E n f):=by
 intro pins s σ H Q I hZ20
 obtain ⟨G,ρ,hs,hr,ho,k⟩:=hZ20
 exact aW (h pins s σ G H ρ I hs hr ho) fun u s' hZ139=>(by obtain ⟨d,e,v,G',H',S,I',rv,x,o,w⟩:=hZ139; exact ⟨v,H',I',rv,k d e v G' H' S x o w⟩)
theorem PN.tn {e:Expr}{f:DS→Res D}{te:TE}(h:PE X e te)(t:TN X.K E n f te):PN X E n e f:=by
 intro pins s σ G H ρ I hs hr ho
 refine aW (h pins s σ H (fun v H'=>∃ d G' S,f ρ= .ok d∧Ext G H G' H'∧Ow X.K G' H' n d v S∧New H G' S) I (t σ G H ρ _ hs hr ho fun d e v G' H' S x o w=>(jh d G' S e x o w))) fun u s' hZ140=>(by obtain ⟨v,H',I',rv,d,G',S,e,x,o,w⟩:=hZ140; exact ⟨d,e,v,G',H',S,I',rv,x,o,w⟩)
theorem jG {K:W.Frag}{G G' H H':Hp}{p:Addr}{ds:List D}{vs:List V}(x:Ext G H G' H')(hp:H' p=none)(rl:RepL K G' ds vs):Ext G H G' (bg H' p (.lst vs))∧Ow K G' (bg H' p (.lst vs)) 1 (.lst ds) (.ref p) [p]∧New H G' [p]:=by
 refine ⟨x.hnew hp _,(jh p vs ([]) rfl ao rfl ?_),⟨List.nodup_cons.mpr ⟨List.not_mem_nil,List.nodup_nil⟩,fun a ha=> ?_⟩⟩
 ·have go:∀ {ds:List D} {vs:List V},RepL K G' ds vs→AllW (Ow K G' (bg H' p (.lst vs)) 0) ds vs []:=by
   intro ds
   induction ds with
   | nil=>intro vs h; exact ⟨h.inv0,rfl⟩
   | cons d ds ih=>
    intro vs h
    refine bp (h.inv) fun v q hS133 h1 h2=> ?_; subst hS133
    refine (mN v q ([]) ([]) rfl rfl ⟨rfl,h1⟩ ((ih h2).mono fun d v A _ _ z=> ?_))
    exact z
  exact (go rl).mono fun d v A _ _ z=>z
 ·have e:a=p:=by simpa using ha
  subst e
  exact ⟨x.hh.free hp,by
   cases q:G' a with
   | none=>rfl
   | some o=>rw [x.gh a o q] at hp; cases hp⟩
theorem iQ {es:List Expr}{pos:Pos}{f:DS→Res (List D)}(h:lI X E es f):PN X E 1 (.List es pos) (fu f):=by
 refine .tn (tm (iO h)) fun σ G H ρ Q hs hro ho k=>⟨G,ρ,hs,hro,ho.fst,fun ds e vs G1 H1 x1 r1=> ?_⟩
 have kk:=ho.snd e x1.hh
 by_cases hl:aL ds.length=true
 ·refine ⟨by rw [← r1.length]; exact bF hl,fun p hp=> ?_⟩
  obtain ⟨x,o,w⟩:=jG x1 hp r1
  exact k (.lst ds) (aq e (if_pos hl)) _ _ _ _ x o w
 ·rw [if_neg hl] at kk; exact kk.elim
theorem Al {CX:qy}{k:Nat}{f:Addr}{fd:FuncData}{ps:List Str}{m:List D→Res D}{x:Str}{p pos:Pos}{e:Expr}{es:List Expr}{fs:DS→Res (List D)}(F:FnOk X.prog X.w X.K X.mg X.base CX k f fd ps (freshSp X.K n m))(hr:Room k X.A)(hg:Gl X x)(hm:X.mg x=some (.ref f))(hk:W.keepIn X.K (.ref f)=true)(hb:Binds X.K fd ps [])(hx:cL CX X E)
  (ha:lI X E (e :: es) fs) (hdb:(x == ("__debug__" :Str))=false:=by decide) (he:starEach (e :: es) X.env=(false,eval e X.env) :: starEach es X.env:=by rfl) (hpl:(backTo pos (starEach es X.env)).any (·.1)=false:=by rfl) :
  PN X E n (.Call (.Name x p) (e :: es) [] pos) (bx fs m):=
 .tn (Aa F hr hg hm hk hb .nil hx (iO ha) hdb he hpl) fun σ G H ρ Q hs hro ho k=>⟨G,ρ,hs,hro,ho.fst,fun ds e1 vs G1 H1 x1 p1=>⟨ds,G1,x1.gh,by rw [List.append_nil]; exact p1,ho.snd e1 x1.hh,fun d ed v G' H' S xx o w=>k d (aq e1 ed) v G' H' S (x1.trans xx) o ⟨w.1,fun a ha=>⟨x1.hh.free (w.2 a ha).1,(w.2 a ha).2⟩⟩⟩⟩
theorem An {e:Expr}{p pos:Pos}{f:DS→Res D}(h:PD X E e f)(hg:Gl X "list")(hm:X.mg "list" =none)(he:starEach [e] X.env=(false,eval e X.env) :: starEach [] X.env:=by rfl):PN X E 1 (.Call (.Name "list" p) [e] [] pos) (bx (fun ρ=>(f ρ).bind fun d=> .ok [d]) eQ):=by
 have hpd:lI X E [e] (fun ρ=>(f ρ).bind fun d=> .ok [d]):=aa h ae he
 refine .tn (eC (x:= "list") (p:=p) (pos:=pos) jQ hg hm ud (iO hpd) (by decide) (by decide) he rfl) fun σ G H ρ Q hs hro ho k=>⟨G,ρ,hs,hro,ho.fst,fun ds e1 vs G1 H1 x1 p1=> ?_⟩
 have kk:=ho.snd e1 x1.hh
 have e0:bx (fun ρ=>(f ρ).bind fun d=> .ok [d]) eQ ρ=eQ ds:=by show ((f ρ).bind fun d=>Res.ok [d]).bind eQ=_; rw [e1]; rfl
 unfold eQ at kk
 split at kk
 ·obtain ⟨v,r,rfl,m,r0⟩:=p1.inv
  rw [r0.inv0]
  rw [rep_lst] at m
  obtain ⟨q,xs,rfl,sq,m⟩:=m
  refine ⟨q,xs,rfl,.inl (x1.gh.seq sq.sq),fun l hl=> ?_⟩
  obtain ⟨x,o,w⟩:=jG x1 hl m
  exact k _ e0 _ _ _ _ x o w
 ·obtain ⟨v,r,rfl,m,r0⟩:=p1.inv
  rw [r0.inv0]
  rw [rep_tup] at m
  obtain ⟨q,xs,rfl,sq,m⟩:=m
  refine ⟨q,xs,rfl,.inr (x1.gh.seqT sq),fun l hl=> ?_⟩
  obtain ⟨x,o,w⟩:=jG x1 hl m
  exact k _ e0 _ _ _ _ x o w
 ·exact kk.elim
theorem PZ.zero {e:Expr}{f:DS→Res D}(h:PZ X E μ n e f):PZ X E μ 0 e f:=by
 intro pins s σ Ge B G H ρ fp I R ho
 refine aW (h pins s σ Ge B G H ρ fp I R ho) fun u s' hZ141=> ?_
 obtain ⟨d,e,v,y,J,S,I',rv,x,sg,sh,o,w⟩:=hZ141
 have dec:∀ b,Decidable (b∈S):=fun b=>Classical.propDecidable _
 have W:Same y (fun b=>if b∈S then J b else y b):=fun b u e=>by
  show (if b∈S then J b else y b)=some u
  by_cases q:b∈S
  ·rw [(w.2 b q).2] at e; cases e
  ·rw [if_neg q]; exact e
 have rp:Rep X.K (fun b=>if b∈S then J b else y b) d v:=o.rep W fun a ha u e=>by
  show (if a∈S then J a else y a)=some u
  rw [if_pos ha]; exact e
 refine ⟨d,e,v,fun b=>if b∈S then J b else y b,J,[],I',rv,⟨fun b u e=> ?_,x.eg.trans W,x.bh,fun b u e=> ?_,fun i a e=> ?_,x.ob,x.oc,x.nd,x.dj,fun i d e=> ?_⟩,sg.trans W,sh,⟨rfl,rp⟩,.nil⟩
 ·have e:(if b∈S then J b else y b)=some u:=e
  by_cases q:b∈S
  ·rw [if_pos q] at e; exact e
  ·rw [if_neg q] at e; exact x.gh b u e
 ·have e:(if b∈S then J b else y b)=some u:=e
  by_cases q:b∈S
  ·exact .inr (.inl (R.bh.free (w.2 b q).1))
  ·rw [if_neg q] at e; exact x.nw b u e
 ·show (if a∈S then J a else y a)=none
  rw [if_neg (fun z=>R.apart w i a z e)]
  exact x.gf i a e
 ·obtain ⟨v,hv,hh⟩:=x.sl i d e
  exact ⟨v,hv,hh.mono W fun a _ o eo=>eo⟩
theorem jZ {ρ:DS}:f_ [] ρ=ρ:=by
 unfold f_
 apply List.ext_getElem?
 intro i
 rw [List.getElem?_mapIdx]
 cases ρ[i]? <;> simp
theorem aK {e:Expr}{f:DS→Res D}(h:PN X E n e f):PZ X E [] n e f:=by
 have:=aE (μ:=[]) h
 unfold da at this
 simp only [jZ] at this
 exact this
theorem tY {tg iter:Expr}{fi:DS→Res (List D)}(h:PI X tg iter (tDI X.K E fi)):PI X tg iter (tZI X.K E [] fi):=by
 have:=eA (μ:=[]) h
 unfold xb at this
 simp only [jZ] at this
 exact this
theorem uP {st:Stmt}{i:Nat}{x:Str}{te:TE}{f:DS→Res D}(hi:X.N[i]?=some x)(hps:PS X st (rV te (bY i)))(t:TN X.K E n f te)(hm:μ.getD i 0=n):lJ X E μ r st (aP i (da μ f)):=by
 intro pins s σ Ge B G H ρ fp I R ho
 have hiσ:i < σ.length:=by rw [I.len]; exact (fG hi).1
 refine aW (hps pins s σ H { nx:=fun σ' H'=>∃ d v G' S,da μ f ρ= .ok d∧σ'=σ.set i (some v)∧Rw X.K μ Ge B G' H' σ ρ fp∧Same G G'∧Ow X.K G' H' n d v S∧New H G' S,bk:=fun _ _=>False,ct:=fun _ _=>False,rt:=fun _ _=>False } I (t σ G H (f_ μ ρ) _ R.gh R.rof (ho.res.le R.bh) fun d e v G' H' S x o w=>(zI d v G' S e rfl (R.growF x) x.gg o w))) fun fl s1 q=> ?_
 ·cases fl with
  | next=>
   obtain ⟨σ',H',I',d,v,G',S,e,e2,R',sg,o,w⟩:=q
   subst e2
   rw [← hm] at o
   exact ⟨_,_,G',H',_,bO e,I',R'.put hiσ o w.1 (fun a ha=>⟨(w.2 a ha).2,R.bh.free (w.2 a ha).1⟩) (fun j _=>R.apart w j),sg⟩
  | brk=>obtain ⟨_,_,_,q⟩:=q; exact q.elim
  | cont=>obtain ⟨_,_,_,q⟩:=q; exact q.elim
  | ret u=>obtain ⟨_,_,_,_,_,q⟩:=q; exact q.elim
end
theorem TN.freeze {K:W.Frag}{E:XK}{n:Nat}{f:DS→Res D}{te:TE}(t:TN K E n f te):TN K E 0 f te:=fun σ G H ρ Q hs hr ho k=>t σ G H ρ Q hs hr ho fun d e v G' H' S x o w=>by
 refine cw (x.freeze hs w o) fun G2 x2 _ rp=> ?_
 exact k d e v G2 H' [] x2 ⟨rfl,rp⟩ .nil
noncomputable def GC (K:W.Frag)(n:Nat)(g:TG)(asg:D→DS→Option DS):Prop:=
 ∀ (G H:Hp) (σ:St) (ρ ρ':DS) (v:V) (d:D),σ.length=n→Same G H→Ro K G σ ρ→Rep K G d v→asg d ρ=some ρ'→g v σ H fun σ' H'=>H'=H∧Ro K G σ' ρ'
theorem ur {K:W.Frag}{n j:Nat}(hj:j < n):GC K n (bY j) (bb j):=by
 intro G H σ ρ ρ' v d hl hs R h e
 cases e
 exact ⟨rfl,R.set (by rw [hl]; exact hj) h⟩
theorem xf {K:W.Frag}{n j k:Nat}(hj:j < n)(hk:k < n):GC K n (vE K 2 (iI (bY j) (iI (bY k) vC))) (fq j k):=by
 intro G H σ ρ ρ' v d hl hs R h e
 unfold fq at e
 split at e
 ·rename_i a b
  cases e
  rw [rep_tup] at h
  refine cps fun PP kP=> ?_
  obtain ⟨p,xs,rfl,t,rl⟩:=h
  obtain ⟨x,q,rfl,rx,rl⟩:=rl.inv
  obtain ⟨y,q,rfl,ry,rl⟩:=rl.inv
  refine kP ?_; clear kP PP
  have:=rl.inv0; subst this
  have R2:=(R.set (j:=j) (by rw [hl]; exact hj) rx).set (j:=k) (by rw [List.length_set,hl]; exact hk) ry
  exact ⟨p,[x,y],rfl,(show TpS K H p _ from ⟨hs _ _ t.h⟩).sq,rfl,x,[y],rfl,y,[],rfl,rfl,rfl,R2⟩
 ·cases e
theorem lx {K:W.Frag}{caps:List (Option Nat)}{i j:Nat}(hi:caps[i]?=some none)(hj:caps[j]?=some none):jN caps (vE K 2 (iI (bY i) (iI (bY j) vC))):=fun x σ0 H Q q=>by
 refine FV (q) fun a xs e1 sq hl v1 r1 e2 v2 r2 e3 e4 q=> ?_
 refine (Er a xs e1 sq hl v1 r1 e2 v2 r2 e3 e4 q (by simp) (fun k m v hk hv=> ?_))
 have n1:k≠i:=fun z=>by rw [z,hi] at hk; cases hk
 have n2:k≠j:=fun z=>by rw [z,hj] at hk; cases hk
 rw [List.getElem?_set_ne (Ne.symm n2),List.getElem?_set_ne (Ne.symm n1)]
 exact hv
noncomputable def nC {α:Type}(asg:D→DS→Option DS)(ρ:DS)(f:DS→Res α)(d:D):Res α:=match asg d ρ with
 | some ρ'=>f ρ'
 | none=> .bad
noncomputable def aF (fi:DS→Res (List D))(caps:List (Option Nat))(asg:D→DS→Option DS)(ft:DS→Res Bool)(fe:DS→Res D):DS→Res D:=fun ρ=>(fi ρ).bind fun ds=>if aL ds.length=true then
 (bq (nC asg (c_ caps ρ) ft) (nC asg (c_ caps ρ) fe) ds).bind fun es=> .ok (.lst es) else .bad
theorem kN {t:D→Res Bool}{f:D→Res D}{c:Addr}:∀ (l:List D),bq t f l≠ .exc c
 | []=>fun z=>by unfold bq at z; cases z
 | a :: as=>fun z=>by
  unfold bq at z
  split at z
  ·split at z
   ·cases q:bq t f as with
    | bad=>rw [q] at z; cases z
    | ok x=>rw [q] at z; cases z
    | exc c'=>rw [q] at z; have z':Res.exc c'=Res.exc c:=z; cases z'; exact kN as q
   ·cases z
  ·exact kN as z
  ·cases z
theorem gP {t:D→Res Bool}{f:D→Res D}{d:D}{o:List D}(hd:bq t f [d]= .ok o):∀ {as es:List D},bq t f as= .ok es→bq t f (as ++ [d])= .ok (es ++ o)
 | [],es,h=>by unfold bq at h; cases h; exact hd
 | a :: as,es,h=>by
  rw [List.cons_append]
  unfold bq at h ⊢
  split at h
  ·rename_i ha
   split at h
   ·rename_i e0 hf
    cases q:bq t f as with
    | bad=>rw [q] at h; cases h
    | exc c=>rw [q] at h; cases h
    | ok e2=>
     rw [q] at h
     have h':Res.ok (e0 :: e2)=Res.ok es:=h
     cases h'
     rw [gP hd q]; rfl
   ·cases h
  ·exact gP hd h
  ·cases h
section
variable{X:Cx}{E:XK}{n:Nat}
theorem l0 {K:W.Frag}{caps:List (Option Nat)}{g:TG}{asg:D→DS→Option DS}{fi:DS→Res (List D)}{ft:DS→Res Bool}{fe:DS→Res D}(hg:GC K caps.length g asg)(hgm:∀ x σ H (Q Q':St→Hp→Prop),(∀ σ' H',Q σ' H'→Q' σ' H')→g x σ H Q→g x σ H Q') :
  TN K E (n+1) (aF fi caps asg ft fe) (yA (tDI K E fi) caps g (tDT K pe ft) (tN K pe n fe)):=by
 intro σ G H h Q hs hro ho k
 refine ⟨G,h,hs,hro,ho.fst,fun X e J G1 H1 x1 src=> ?_⟩
 have kk:=ho.snd e x1.hh
 by_cases hl:aL X.length=true
 ·rw [if_pos hl] at kk
  cases hm:bq (nC asg (c_ caps h) ft) (nC asg (c_ caps h) fe) X with
  | bad=>rw [hm] at kk; exact kk.elim
  | exc c=>exact absurd hm (kN X)
  | ok es=>
   have hres:aF fi caps asg ft fe h= .ok (.lst es):=aq e (by rw [if_pos hl]; exact aq hm rfl)
   refine ⟨fun i m ys H2=>m=X.length - i∧i≤X.length∧∃ L w S,Ext G1 H1 L H2∧bq (nC asg (c_ caps h) ft) (nC asg (c_ caps h) fe) (X.take i)= .ok w∧AllW (Ow K L H2 n) w ys S∧New H1 L S,
    (Es _ rfl (Nat.zero_le _) G1 ([]) ([]) (.refl x1.gh) rfl ⟨rfl,rfl⟩ .nil),?_⟩
   intro i m ys H2 hZ21
   refine Hw (hZ21) fun hS134 hi L w S x2 B M w1=> ?_; subst hS134
   have hlen:ys.length≤sizeLine:=by
    have h1:=kO B
    rw [List.length_take] at h1
    have h2:=bF hl
    rw [← M.length]; omega
   obtain ⟨sg,ss⟩:=src L H2 x2.gg x2.gh i
   by_cases hlt:i < X.length
   ·obtain ⟨go,yl⟩:=sg X[i] (by simp [hlt])
    have O:X=X.take i ++ (X[i] :: X.drop (i+1)):=by rw [List.getElem_cons_drop,List.take_append_drop]
    refine .inr (mM go (fun ys' H'=>∃ L w S,Ext G1 H1 L H'∧bq (nC asg (c_ caps h) ft) (nC asg (c_ caps h) fe) (X.take (i+1))= .ok w∧AllW (Ow K L H' n) w ys' S∧New H1 L S) (fun ys' H' hZ142=>(by refine jd (hZ142) fun G3 es3 S3 a b c d=> ?_; exact (Et (X.length - (i+1)) (by omega) rfl hlt G3 es3 S3 a b c d))) (fun x H' hy=> ?_))
    obtain ⟨G3,x3,rx⟩:=yl x H' hy
    have htk:X.take (i+1)=X.take i ++ [X[i]]:=by rw [List.take_add_one]; simp [hlt]
    have hm2:=hm
    rw [O] at hm2
    refine bp (kM hm2) fun ea eb q1 F q3=> ?_
    rw [B] at q1; cases q1
    have hcl:(eO caps σ).length=caps.length:=by simp [eO]
    unfold bq at F
    have ht0:∃ b,nC asg (c_ caps h) ft X[i]= .ok b:=by
     cases I:nC asg (c_ caps h) ft X[i] with
     | bad=>rw [I] at F; cases F
     | exc c=>rw [I] at F; cases F
     | ok b=>exact ⟨b,rfl⟩
    obtain ⟨b,I⟩:=ht0
    rw [I] at F
    cases qa:asg X[i] (c_ caps h) with
    | none=>unfold nC at I; rw [qa] at I; cases I
    | some C=>
    have ht2:ft C= .ok b:=by unfold nC at I; rw [qa] at I; exact I
    refine hgm _ _ _ _ _ (fun σ2 H3 hZ143=> ?_) (hg G3 H' _ _ C x X[i] hcl x3.gh (yY (hro.mono ((x1.gg.trans x2.gg).trans x3.gg))) rx qa)
    obtain ⟨e3,ro3⟩:=hZ143
    subst e3
    refine ⟨G3,C,x3.gh,ro3,by rw [ht2]; trivial,fun b' eb' G4 H4 x4=> ?_⟩
    rw [ht2] at eb'
    cases eb'
    have x24:=(x2.trans x3).trans x4
    have N:=x3.trans x4
    have P:AllW (Ow K G4 H4 n) w ys S:=M.mono fun d v A _ _ z=>z.mono N.gg fun a _ o eo=>N.hh a o eo
    have w4:New H1 G4 S:=w1.step M.has N
    cases b with
    | false=>
     rw [if_neg Bool.false_ne_true]
     refine (jh G4 w S x24 ?_ P w4)
     rw [htk]
     have:=gP (t:=nC asg (c_ caps h) ft) (f:=nC asg (c_ caps h) fe) (d:=X[i]) (o:=[]) (by unfold bq; rw [I]; rfl) B
     rw [List.append_nil] at this
     exact this
    | true=>
     rw [if_pos rfl]
     dsimp only at F
     have fe2:nC asg (c_ caps h) fe X[i]=fe C:=by unfold nC; rw [qa]
     refine ⟨hlen,G4,C,x4.gh,ro3.mono x4.gg,?_,fun y ey v G5 H5 S5 x5 ry w5=> ?_⟩
     ·rw [fe2] at F
      cases hf:fe C with
      | ok y=>trivial
      | exc c=>rw [hf] at F; cases F
      | bad=>rw [hf] at F; cases F
     ·refine (jh G5 (w ++ [y]) (S ++ S5) (x24.trans x5) ?_ ((P.mono fun d v A _ _ z=>z.mono x5.gg fun a _ o eo=>x5.hh a o eo).append (.one ry)) ((w4.step P.has x5).join w5 P.has (x2.hh.trans N.hh)))
      rw [htk]
      exact gP (by unfold bq; rw [I,fe2,ey]; rfl) B
   ·have hie:i=X.length:=by omega
    subst hie
    rw [List.take_length,hm] at B
    cases B
    refine .inl ⟨ss (Nat.le_refl _),hlen,fun p hp=> ?_⟩
    have x12:=x1.trans x2
    refine k _ hres (.ref p) L _ (p :: S) (x12.hnew hp _) (jh p ys S rfl ao rfl (M.mono fun d v A _ hA z=>z.mono (.refl _) fun a ha o eo=>by rw [ai (aw eo hp)]; exact eo)) ⟨List.nodup_cons.mpr ⟨fun z=> ?_,w1.1⟩,fun a ha=> ?_⟩
    ·obtain ⟨o,ho,_⟩:=M.has p z; rw [hp] at ho; cases ho
    ·rcases List.mem_cons.mp ha with z | z
     ·subst z
      exact ⟨x12.hh.free hp,by
       cases q:L a with
       | none=>rfl
       | some o=>rw [x2.gh a o q] at hp; cases hp⟩
     ·exact ⟨x1.hh.free (w1.2 a z).1,(w1.2 a z).2⟩
 ·rw [if_neg hl] at kk; exact kk.elim
theorem uu {j:Nat}:∀ x σ H (Q Q':St→Hp→Prop),(∀ σ' H',Q σ' H'→Q' σ' H')→bY j x σ H Q→bY j x σ H Q':=fun _ _ _ _ _ k h=>k _ _ h
theorem xh {K:W.Frag}{j i:Nat}:∀ x σ H (Q Q':St→Hp→Prop),(∀ σ' H',Q σ' H'→Q' σ' H')→vE K 2 (iI (bY j) (iI (bY i) vC)) x σ H Q→vE K 2 (iI (bY j) (iI (bY i) vC)) x σ H Q':=fun _ _ _ _ _ k h=>by
 refine FV (h) fun a xs e1 sq hl v1 r1 e2 v2 r2 e3 e4 q=> ?_
 exact (Eu a xs e1 sq hl v1 r1 e2 v2 r2 e3 e4 (k _ _ q))
theorem bo {elt iter:Expr}{ifs:List Expr}{x:Str}{px pos:Pos}{scope:Scope}{N:List Str}{caps:List (Option Nat)}{j:Nat}{fi:DS→Res (List D)}{ft:DS→Res Bool}{fe:DS→Res D}(hc:X.calm=true)(S:CompSc X scope N caps)(hjN:N[j]?=some x)(hjc:caps[j]?=some none)(hjl:si scope x)
  (hi:PI X (.Name x px) iter (tDI X.K E fi)) (ht:∀ s H C ex,u_ (X.comp s H scope C N ex) pe ifs ft) (he:∀ s H C ex,PN (X.comp s H scope C N ex) pe n elt fe)
  (hs:∀ x,foldedSetIterable iter X.env x=pure x:=by intro _; rfl):PN X E (n+1) (.ListComp elt [⟨.Name x px,iter,ifs,0⟩] scope pos) (aF fi caps (bb j) ft fe):=
 have hlb:=cP (env:=X.env) hjl
 .tn (uJ (pos:=pos) (te:=tN X.K pe n fe) (tc:=tDT X.K pe ft) hc S hi (fun s H C ex=>ee (X:=X.comp s H scope C N ex) (i:=j) S.nd hjN hlb.1 hlb.2) (j9 hjc) (fun s H C ex=>ht s H C ex) (fun s H C ex=>Ad (he s H C ex)) hs)
  (l0 (ur (fG hjc).1) uu)
theorem rE {elt iter:Expr}{ifs:List Expr}{x y:Str}{px py pt pos:Pos}{kt:Nat}{scope:Scope}{N:List Str}{caps:List (Option Nat)}{j l:Nat}{fi:DS→Res (List D)}{ft:DS→Res Bool}{fe:DS→Res D}(hc:X.calm=true)(S:CompSc X scope N caps)(hjN:N[j]?=some x)(hlN:N[l]?=some y)(hjc:caps[j]?=some none)(hlc:caps[l]?=some none)(hjl:si scope x)(hll:si scope y)
  (hi:PI X (.Tuple [.Name x px,.Name y py] kt pt) iter (tDI X.K E fi)) (ht:∀ s H C ex,u_ (X.comp s H scope C N ex) pe ifs ft) (he:∀ s H C ex,PN (X.comp s H scope C N ex) pe n elt fe)
  (hs:∀ x,foldedSetIterable iter X.env x=pure x:=by intro _; rfl):PN X E (n+1) (.ListComp elt [⟨.Tuple [.Name x px,.Name y py] kt pt,iter,ifs,0⟩] scope pos) (aF fi caps (fq j l) ft fe):=
 have hlb:=cP (env:=X.env) hjl
 have hlb':=cP (env:=X.env) hll
 .tn (uJ (pos:=pos) (te:=tN X.K pe n fe) (tc:=tDT X.K pe ft) hc S hi (fun s H C ex=>tu (X:=X.comp s H scope C N ex) hc (gq (ee (X:=X.comp s H scope C N ex) (i:=j) S.nd hjN hlb.1 hlb.2) (gq (ee (X:=X.comp s H scope C N ex) (i:=l) S.nd hlN hlb'.1 hlb'.2) qh))) (lx hjc hlc) (fun s H C ex=>ht s H C ex) (fun s H C ex=>Ad (he s H C ex)) hs)
  (l0 (xf (fG hjc).1 (fG hlc).1) xh)
theorem dN {elt iter:Expr}{ifs:List Expr}{x y:Str}{px py pos spos:Pos}{scope:Scope}{N:List Str}{caps:List (Option Nat)}{i j:Nat}{fi:DS→Res (List D)}{ft:DS→Res Bool}{fe:DS→Res D}(hN:X.N.Nodup)(hi:X.N[i]?=some y)(hy:X.env.scope.names.lookup y=some .local)(hc:X.calm=true)(S:CompSc X scope N caps)(hjN:N[j]?=some x)(hjc:caps[j]?=some none)(hjl:si scope x)
  (hit:PI X (.Name x px) iter (tDI X.K E fi)) (ht:∀ s H C ex,u_ (X.comp s H scope C N ex) pe ifs ft) (he:∀ s H C ex,PN (X.comp s H scope C N ex) pe n elt fe)
  (hsw:swapsWith (.ListComp elt [⟨.Name x px,iter,ifs,0⟩] scope pos) (some (.Name y py)) spos.line X.env=pure true:=by rfl)
  (hs:∀ x,foldedSetIterable iter X.env x=pure x:=by intro _; rfl):∃ te,PS X (.Assign [.Name y py] (.ListComp elt [⟨.Name x px,iter,ifs,0⟩] scope pos) spos) (rV te (bY i))∧TN X.K E (n+1) (aF fi caps (bb j) ft fe) te:=
 have hlb:=cP (env:=X.env) hjl
 ⟨_,nh (pos:=pos) (py:=py) (spos:=spos) (te:=tN X.K pe n fe) (tc:=tDT X.K pe ft) hN hi hy hc S hit (fun s H C ex=>ee (X:=X.comp s H scope C N ex) (i:=j) S.nd hjN hlb.1 hlb.2) (j9 hjc) (fun s H C ex=>ht s H C ex) (fun s H C ex=>Ad (he s H C ex)) hsw hs,
  l0 (ur (fG hjc).1) uu⟩
theorem rG {elt iter:Expr}{ifs:List Expr}{x z y:Str}{px pz pt py pos spos:Pos}{kt:Nat}{scope:Scope}{N:List Str}{caps:List (Option Nat)}{i j l:Nat}{fi:DS→Res (List D)}{ft:DS→Res Bool}{fe:DS→Res D}(hN:X.N.Nodup)(hi:X.N[i]?=some y)(hy:X.env.scope.names.lookup y=some .local)(hc:X.calm=true)(S:CompSc X scope N caps)(hjN:N[j]?=some x)(hlN:N[l]?=some z)(hjc:caps[j]?=some none)(hlc:caps[l]?=some none)(hjl:si scope x)(hll:si scope z)
  (hit:PI X (.Tuple [.Name x px,.Name z pz] kt pt) iter (tDI X.K E fi)) (ht:∀ s H C ex,u_ (X.comp s H scope C N ex) pe ifs ft) (he:∀ s H C ex,PN (X.comp s H scope C N ex) pe n elt fe)
  (hsw:swapsWith (.ListComp elt [⟨.Tuple [.Name x px,.Name z pz] kt pt,iter,ifs,0⟩] scope pos) (some (.Name y py)) spos.line X.env=pure true:=by rfl)
  (hs:∀ x,foldedSetIterable iter X.env x=pure x:=by intro _; rfl):∃ te,PS X (.Assign [.Name y py] (.ListComp elt [⟨.Tuple [.Name x px,.Name z pz] kt pt,iter,ifs,0⟩] scope pos) spos) (rV te (bY i))∧TN X.K E (n+1) (aF fi caps (fq j l) ft fe) te:=
 have hlb:=cP (env:=X.env) hjl
 have hlb':=cP (env:=X.env) hll
 ⟨_,nh (pos:=pos) (py:=py) (spos:=spos) (te:=tN X.K pe n fe) (tc:=tDT X.K pe ft) hN hi hy hc S hit (fun s H C ex=>tu (X:=X.comp s H scope C N ex) hc (gq (ee (X:=X.comp s H scope C N ex) (i:=j) S.nd hjN hlb.1 hlb.2) (gq (ee (X:=X.comp s H scope C N ex) (i:=l) S.nd hlN hlb'.1 hlb'.2) qh))) (lx hjc hlc) (fun s H C ex=>ht s H C ex) (fun s H C ex=>Ad (he s H C ex)) hsw hs,
  l0 (xf (fG hjc).1 (fG hlc).1) xh⟩
end
section
variable{K:W.Frag}{μ:List Nat}{Ge B G H:Hp}{σ:St}{ρ:DS}{fp:Nat→List Addr}{j n:Nat}
noncomputable def AY (B G:Hp)(fp:Nat→List Addr)(S:List Addr):Prop:=∀ b∈S,(G b=none∧B b=none)∧∀ i,b∉fp i
theorem Rw.top {l:List D}(R:Rw K μ Ge B G H σ ρ fp)(hr:ρ[j]?=some (some (.lst l)))(hm:μ.getD j 0=n+1):∃ a xs T,σ[j]?=some (some (.ref a))∧H a=some (.lst xs)∧fp j=a :: T∧AllW (Ow K G H n) l xs T:=by
 obtain ⟨v,hv,o⟩:=R.sl j _ hr
 rw [hm] at o
 refine jd (o) fun a xs T e1 e2 e3 h=> ?_
 subst e1
 exact (jh a xs T hv e2 e3 h)
theorem Rw.relist {l':List D}{a:Addr}{ys:List V}{T T':List Addr}(R:Rw K μ Ge B G H σ ρ fp)(hm:μ.getD j 0=n+1)(hv:σ[j]?=some (some (.ref a)))(hf:fp j=a :: T)(o:AllW (Ow K G (bg H a (.lst ys)) n) l' ys T')(nd:T'.Nodup)(hT:∀ b∈T',b∈T∨((G b=none∧B b=none)∧∀ i,b∉fp i)):Rw K μ Ge B G (bg H a (.lst ys)) σ (ρ.set j (some (.lst l'))) (fun i=>if i=j then a :: T' else fp i):=by
 have hnd:=R.nd j
 rw [hf] at hnd
 have haT:a∉T:=(List.nodup_cons.mp hnd).1
 have I:a∈fp j:=by rw [hf]; exact List.mem_cons_self ..
 have inT:∀ b∈T,b∈fp j:=fun b hb=>by rw [hf]; exact cI hb
 refine R.write I hv (by rw [hm]; exact (jh a ys T' rfl ao rfl o)) (List.nodup_cons.mpr ⟨fun z=> ?_,nd⟩) (fun b hb=> ?_) fun i hi b hb hbi=> ?_
 ·rcases hT a z with y | y
  ·exact haT y
  ·exact y.2 j I
 ·rcases List.mem_cons.mp hb with z | z
  ·subst z; exact ⟨R.gf j _ I,R.ob j _ I⟩
  ·rcases hT b z with y | y
   ·exact ⟨R.gf j _ (inT b y),R.ob j _ (inT b y)⟩
   ·exact y.1
 ·rcases List.mem_cons.mp hb with z | z
  ·subst z; exact hi (R.dj i j _ hbi I)
  ·rcases hT b z with y | y
   ·exact hi (R.dj i j _ hbi (inT b y))
   ·exact y.2 i hbi
theorem Rw.app1 {l:List D}{d:D}{v:V}{S T:List Addr}{a:Addr}{xs:List V}(R:Rw K μ Ge B G H σ ρ fp)(hm:μ.getD j 0=n+1)(hv:σ[j]?=some (some (.ref a)))(hH:H a=some (.lst xs))(hf:fp j=a :: T)(h:AllW (Ow K G H n) l xs T)(o:Ow K G H n d v S)(nd:S.Nodup)(hS:AY B G fp S):Rw K μ Ge B G (bg H a (.lst (xs ++ [v]))) σ (ρ.set j (some (.lst (l ++ [d])))) (fun i=>if i=j then a :: (T ++ S) else fp i):=by
 have hnd:=R.nd j
 rw [hf] at hnd
 have haj:a∈fp j:=by rw [hf]; exact List.mem_cons_self ..
 have inT:∀ b∈T,b∈fp j:=fun b p=>by rw [hf]; exact cI p
 have neT:∀ b,b∈T→b≠a:=fun b p z=>(List.nodup_cons.mp hnd).1 (z ▸ p)
 have neS:∀ b,b∈S→b≠a:=fun b p z=>(hS b p).2 j (z ▸ haj)
 have o1:AllW (Ow K G (bg H a (.lst (xs ++ [v]))) n) l xs T:=h.mono fun d v A _ hA z=>z.mono (.refl _) fun b p u e=>by
  rw [ai (neT b (hA b p))]; exact e
 have o2:Ow K G (bg H a (.lst (xs ++ [v]))) n d v S:=o.mono (.refl _) fun b p u e=>by
  rw [ai (neS b p)]; exact e
 exact R.relist hm hv hf (o1.append (.one o2)) (List.nodup_append.mpr ⟨(List.nodup_cons.mp hnd).2,nd,fun b p c hc e=>by subst e; exact (hS b hc).2 j (inT b p)⟩) fun b p=>(List.mem_append.mp p).imp id (hS b)
theorem AllW.subs {P:D→V→List Addr→Prop}{ds:List D}{vs:List V}{S A L R:List Addr}(e:S=L ++ A ++ R):(∀ b∈L,b∈S)∧(∀ b∈A,b∈S)∧∀ b∈R,b∈S:=by
 subst e
 exact ⟨fun b h=>List.mem_append_left _ (List.mem_append_left _ h),fun b h=>List.mem_append_left _ (List.mem_append_right _ h),fun b h=>List.mem_append_right _ h⟩
theorem kZ {A A' L R:List Addr}(h:(L ++ A ++ R).Nodup)(nd:A'.Nodup)(hA:∀ b∈A',b∈A∨(b∉L∧b∉R)):(L ++ A' ++ R).Nodup:=by
 refine cps fun PP kP=> ?_
 obtain ⟨h1,h2,h3⟩:=List.nodup_append.mp h
 obtain ⟨h4,h5,h6⟩:=List.nodup_append.mp h1
 refine kP ?_; clear kP PP
 refine List.nodup_append.mpr ⟨List.nodup_append.mpr ⟨h4,nd,fun a ha b hb e=> ?_⟩,h2,fun a ha b hb e=> ?_⟩
 ·subst e
  rcases hA a hb with z | z
  ·exact h6 a ha a z rfl
  ·exact z.1 ha
 ·subst e
  rcases List.mem_append.mp ha with z | z
  ·exact h3 a (List.mem_append_left _ z) a hb rfl
  ·rcases hA a z with y | y
   ·exact h3 a (List.mem_append_right _ y) a hb rfl
   ·exact y.2 hb
theorem Rw.row {l row':List D}{row:List D}{T:List Addr}{a:Addr}{xs ys':List V}{m:Nat}(R:Rw K μ Ge B G H σ ρ fp)(hm:μ.getD j 0=n+2)(hv:σ[j]?=some (some (.ref a)))(hH:H a=some (.lst xs))(hf:fp j=a :: T)(h:AllW (Ow K G H (n+1)) l xs T)(hl:l[m]?=some (.lst row)) :
  ∃ b ys U,xs[m]?=some (.ref b)∧H b=some (.lst ys)∧AllW (Ow K G H n) row ys U∧U.Nodup∧b∉U∧b∈fp j∧(∀ c∈U,c∈fp j)∧
   ∀ U',AllW (Ow K G (bg H b (.lst ys')) n) row' ys' U'→U'.Nodup→(∀ c∈U',c∈U∨((G c=none∧B c=none)∧∀ i,c∉fp i))→∃ fp',Rw K μ Ge B G (bg H b (.lst ys')) σ (ρ.set j (some (.lst (l.set m (.lst row'))))) fp':=by
 have hnd:=R.nd j
 rw [hf] at hnd
 have M:a∈fp j:=by rw [hf]; exact List.mem_cons_self ..
 have I:∀ b∈T,b∈fp j:=fun b hb=>by rw [hf]; exact cI hb
 refine cps fun PP kP=> ?_
 obtain ⟨haT,hTn⟩:=List.nodup_cons.mp hnd
 refine o_ (h.at hl) fun w A L Q g1 g2 g3 g4=> ?_
 obtain ⟨sL,sA,sR⟩:=AllW.subs (P:=Ow K G H (n+1)) (ds:=l) (vs:=xs) g2
 refine jd (g3) fun b ys U e1 e2 e3 h5=> ?_
 subst e1
 have hT:=hTn
 rw [g2] at hT
 obtain ⟨h1,h2,h3⟩:=List.nodup_append.mp hT
 obtain ⟨h4,hA,h6⟩:=List.nodup_append.mp h1
 refine kP ?_; clear kP PP
 have hA0:=hA
 rw [e3] at hA
 have J:b∈A:=by rw [e3]; exact List.mem_cons_self ..
 have hUA:∀ c∈U,c∈A:=fun c q=>by rw [e3]; exact cI q
 have hbj:b∈fp j:=I b (sA b J)
 refine (Ev b ys U g1 e2 h5 ((List.nodup_cons.mp hA).2) ((List.nodup_cons.mp hA).1) hbj (fun c q=>I c (sA c (hUA c q))) (fun U' o nd hU=> ?_))
 have hab:a≠b:=fun z=>haT (z ▸ sA b J)
 have nbL:∀ c,c∈L∨c∈Q→c≠b:=fun c q z=>by
  subst z
  rcases q with y | y
  ·exact h6 c y c J rfl
  ·exact h3 c (List.mem_append_right _ J) c y rfl
 have hset:xs.set m (.ref b)=xs:=by
  apply List.ext_getElem?
  intro k
  by_cases hk:k=m
  ·subst hk; rw [List.getElem?_set_self (fG g1).1,g1]
  ·rw [List.getElem?_set_ne (Ne.symm hk)]
 have big:=g4 (Ow K G (bg H b (.lst ys')) (n+1)) (fun d v C hC z=>z.mono (.refl _) fun c q u e=>by rw [ai (nbL c (hC c q))]; exact e) (.lst row') (.ref b) (b :: U') (jh b ys' U' rfl ao rfl o)
 rw [hset] at big
 have ndA':(b :: U').Nodup:=List.nodup_cons.mpr ⟨fun z=>by
  rcases hU b z with y | y
  ·exact (List.nodup_cons.mp hA).1 y
  ·exact y.2 j hbj,nd⟩
 have okA':∀ c∈b :: U',c∈A∨((G c=none∧B c=none)∧∀ i,c∉fp i):=fun c q=>by
  rcases List.mem_cons.mp q with z | z
  ·subst z; exact .inl J
  ·exact (hU c z).imp (hUA c) id
 have okT:∀ c∈L ++ (b :: U') ++ Q,c∈T∨((G c=none∧B c=none)∧∀ i,c∉fp i):=fun c q=>by
  rcases List.mem_append.mp q with z | z
  ·rcases List.mem_append.mp z with y | y
   ·exact .inl (sL c y)
   ·exact (okA' c y).imp (sA c) id
  ·exact .inl (sR c z)
 refine ⟨_,R.write hbj hv (by rw [hm]; exact (jh a xs (L ++ (b :: U') ++ Q) rfl (by rw [ai hab]; exact hH) rfl big)) (List.nodup_cons.mpr ⟨fun z=> ?_,kZ hT ndA' fun c q=>(okA' c q).imp id fun y=>⟨fun z=>y.2 j (I c (sL c z)),fun z=>y.2 j (I c (sR c z))⟩⟩) (fun c q=> ?_) fun i hi c q hci=> ?_⟩
 ·rcases okT a z with y | y
  ·exact haT y
  ·exact y.2 j M
 ·rcases List.mem_cons.mp q with z | z
  ·subst z; exact ⟨R.gf j _ M,R.ob j _ M⟩
  ·rcases okT c z with y | y
   ·exact ⟨R.gf j _ (I c y),R.ob j _ (I c y)⟩
   ·exact y.1
 ·rcases List.mem_cons.mp q with z | z
  ·subst z; exact hi (R.dj i j _ hci M)
  ·rcases okT c z with y | y
   ·exact hi (R.dj i j _ hci (I c y))
   ·exact y.2 i hci
theorem Rw.freshOf {H0 G0:Hp}{S:List Addr}(R:Rw K μ Ge B G H σ ρ fp)(w:New H0 G S)(R0:Rw K μ Ge B G0 H0 σ ρ fp):AY B G fp S:=fun b hb=>⟨⟨(w.2 b hb).2,R0.bh.free (w.2 b hb).1⟩,fun i=>R0.apart w i b hb⟩
end
section
variable{X:Cx}{E:XK}{μ:List Nat}{r n:Nat}
noncomputable def jO (j:Nat)(f:DS→Res D):DS→Out:=fun ρ=>match ρ[j]? with
 | some (some (.lst l))=>(f ρ).out fun d=>if aL l.length=true then .nx (ρ.set j (some (.lst (l ++ [d])))) else .bad
 | _=> .bad
theorem gd {m:Nat}(h:aL m=true):m < sizeLine:=by
 have h6:sizeLine=16777216:=sizeLine_eq
 have h7:m≤100000:=of_decide_eq_true h
 omega
theorem i9 {j:Nat}{x:Str}{e:Expr}{px apos cpos pos:Pos}{f:DS→Res D}(hm:μ.getD j 0=n+1)(hN:X.N[j]?=some x)(hv:t9 X.env.scope x)(h:PZ X E μ n e f)
  (hd:(x == ("__debug__" :Str))=false:=by decide) (hcd:(x == ("__classdict__" :Str))=false:=by decide)
  (hs:starEach [e] X.env=(false,eval e X.env) :: starEach [] X.env:=by rfl)
  (hbase:attributeBase (.Name x px) "append" X.env (eval (.Name x px) X.env)=eval (.Name x px) X.env:=by rfl)
  (hfew:((backTo cpos (starEach [e] X.env)).all (fun x=> !x.1) && (backToKw cpos (keywordEach [] X.env)).all (fun x=>x.1.isSome) && decide (([e].length+([]:List Keyword).length+if ([]:List Keyword).isEmpty=true then 0 else 1) < 30))=true:=by rfl)
  (hline:(apos.endLine == cpos.line)=true:=by rfl)
  (hsw:swapsWith (.Call (.Attribute (.Name x px) "append" apos) [e] [] cpos) none pos.line X.env=pure false:=by rfl) :
  lJ X E μ r (.Expr (.Call (.Attribute (.Name x px) "append" apos) [e] [] cpos) pos) (jO j f):=by
 intro pins s σ Ge B G H ρ fp I R ho
 have hp:=ly (apos:=apos) (cpos:=cpos) (r:=dk) PySem.F.plainAttrs_list PySem.F.slot_list_append PySem.F.type_list_append (show yP X "list.append" dk from gn) (eY (pos:=px) hN hv hd hcd) (df (tq h) fV hs) hbase hfew hline hs rfl
 have hslot:∃ l,ρ[j]?=some (some (.lst l)):=by
  unfold jO at ho
  split at ho
  ·rename_i l q; exact ⟨l,q⟩
  ·exact ho.elim
 obtain ⟨l,hr⟩:=hslot
 have eo:jO j f ρ=(f ρ).out fun d=>if aL l.length=true then .nx (ρ.set j (some (.lst (l ++ [d])))) else .bad:=by
  unfold jO
  rw [hr]
 rw [eo] at ho ⊢
 refine jd (R.top hr hm) fun a xs T h1 h2 h3 h4=> ?_
 refine aW (fJ hp hsw pins s σ H { nx:=fun σ' H'=>∃ d v G1 H1 S,f ρ= .ok d∧aL l.length=true∧σ'=σ∧Rw X.K μ Ge B G1 H1 σ ρ fp∧Same G G1∧Same H H1∧Ow X.K G1 H1 n d v S∧New H G1 S∧H'=bg H1 a (.lst (xs ++ [v])),bk:=fun _ _=>False,ct:=fun _ _=>False,rt:=fun _ _=>False } I ?_) fun fl s1 J=> ?_
 ·refine (ik _ h1 (.inl ⟨rfl,xs,.inl (.inl h2)⟩) ⟨Ge,B,G,ρ,fp,R,ho.res,fun d ed v G1 H1 S R1 sg sh o w=> ?_⟩)
  have k:=ho.res2 ed (Same.refl B)
  by_cases hc:aL l.length=true
  ·exact (Ew a xs v rfl rfl (sh _ _ h2) (by rw [← h4.length]; exact gd hc) d v G1 H1 S ed hc rfl R1 sg sh o w rfl)
  ·rw [if_neg hc] at k; exact k.elim
 ·cases fl with
  | next=>
   obtain ⟨σ',H',I',d,v,G1,H1,S,q,hlk,e2,R1,sg,sh,o,w,e3⟩:=J
   subst e2 e3
   refine jd (R1.top hr hm) fun a2 xs2 T2 g1 g2 g3 g4=> ?_
   rw [h1] at g1
   cases g1
   rw [sh _ _ h2] at g2
   cases g2
   refine ⟨_,_,_,_,_,?_,I',R1.app1 hm h1 (sh _ _ h2) g3 g4 o w.1 (R1.freshOf w R),sg⟩
   rw [bO q,if_pos hlk]
  | brk=>obtain ⟨_,_,_,J⟩:=J; exact J.elim
  | cont=>obtain ⟨_,_,_,J⟩:=J; exact J.elim
  | ret u=>obtain ⟨_,_,_,_,_,J⟩:=J; exact J.elim
theorem New.keep {H G1 H1 G3 H3:Hp}{fp:Nat→List Addr}{S:List Addr}(w:New H G1 S)(hc:∀ a∈S,∃ o,H1 a=some o∧¬ qb o)(ha:∀ i,∀ a∈S,a∉fp i)(x:Ext (nV fp G1 H1) H1 G3 H3):New H (nF (ot fp) G3) S:=⟨w.1,fun a h=>⟨(w.2 a h).1,by
 cases q:nF (ot fp) G3 a with
 | none=>rfl
 | some o=>
  obtain ⟨q1,q2⟩:=j3 q
  rcases x.nw a o q2 with z | z
  ·rw [l7 q1,(w.2 a h).2] at z; cases z
  ·obtain ⟨o',h',hk⟩:=hc a h
   rcases z with z | z
   ·rw [z] at h'; cases h'
   ·have h2:=x.gh a o q2
    rw [x.hh a _ h'] at h2
    cases h2
    exact (hk z).elim⟩⟩
noncomputable def ql (j:Nat)(l:List D)(ρ:DS)(d i:D):Out:=match i with
 | .int k=>(match q_ l.length k with
  | some m=>(match l[m]? with
   | some (.lst row)=>if aL row.length=true then .nx (ρ.set j (some (.lst (l.set m (.lst (row ++ [d])))))) else .bad
   | _=> .bad)
  | none=> .bad)
 | _=> .bad
noncomputable def tG (j:Nat)(fi f:DS→Res D):DS→Out:=fun ρ=>match ρ[j]? with
 | some (some (.lst l))=>(fi ρ).out fun i=>(f ρ).out fun d=>ql j l ρ d i
 | _=> .bad
theorem v_ {j:Nat}{x:Str}{i e:Expr}{px spos apos cpos pos:Pos}{fi f:DS→Res D}(hm:μ.getD j 0=n+2)(hN:X.N[j]?=some x)(hv:t9 X.env.scope x)(hi:PD X E i fi)(h:PZ X E μ n e f)(hex:∀ ρ c,f ρ≠ .exc c)
  (hd:(x == ("__debug__" :Str))=false:=by decide) (hcd:(x == ("__classdict__" :Str))=false:=by decide)
  (hpi:pi i:=by intro _ _; rfl)
  (hs:starEach [e] X.env=(false,eval e X.env) :: starEach [] X.env:=by rfl)
  (hbase:attributeBase (.Subscript (.Name x px) i spos) "append" X.env (eval (.Subscript (.Name x px) i spos) X.env)=eval (.Subscript (.Name x px) i spos) X.env:=by rfl)
  (hfew:((backTo cpos (starEach [e] X.env)).all (fun x=> !x.1) && (backToKw cpos (keywordEach [] X.env)).all (fun x=>x.1.isSome) && decide (([e].length+([]:List Keyword).length+if ([]:List Keyword).isEmpty=true then 0 else 1) < 30))=true:=by rfl)
  (hline:(apos.endLine == cpos.line)=true:=by rfl)
  (hsw:swapsWith (.Call (.Attribute (.Subscript (.Name x px) i spos) "append" apos) [e] [] cpos) none pos.line X.env=pure false:=by rfl) :
  lJ X E μ r (.Expr (.Call (.Attribute (.Subscript (.Name x px) i spos) "append" apos) [e] [] cpos) pos) (tG j fi f):=by
 intro pins s σ Ge B G H ρ fp I R ho
 have hp:=ly (apos:=apos) (cpos:=cpos) (r:=dk) PySem.F.plainAttrs_list PySem.F.slot_list_append PySem.F.type_list_append (show yP X "list.append" dk from gn) (Bp (pos:=spos) ix_list (eY (pos:=px) hN hv hd hcd) (dR hi) hpi) (df (tq h) fV hs) hbase hfew hline hs rfl
 have hslot:∃ l,ρ[j]?=some (some (.lst l)):=by
  unfold tG at ho
  split at ho
  ·rename_i l q; exact ⟨l,q⟩
  ·exact ho.elim
 obtain ⟨l,hr⟩:=hslot
 have eo:tG j fi f ρ=(fi ρ).out fun i=>(f ρ).out fun d=>ql j l ρ d i:=by
  unfold tG
  rw [hr]
 rw [eo] at ho ⊢
 refine jd (R.top hr hm) fun a xs T h1 h2 h3 h4=> ?_
 refine aW (fJ hp hsw pins s σ H { nx:=fun σ' H'=>∃ Q G' O,((fi ρ).out fun i=>(f ρ).out fun d=>ql j l ρ d i)= .nx Q∧σ'=σ∧Rw X.K μ Ge B G' H' σ Q O∧Same G G',bk:=fun _ _=>False,ct:=fun _ _=>False,rt:=fun _ _=>False } I ⟨_,h1,nV fp G H,ρ,R.vh,R.ro,ho.res.le R.bh,fun di ei vi G1 H1 x1 ri=> ?_⟩) fun fl s1 J=> ?_
 ·have k:=ho.res2 ei (Same.refl B)
  have R1:=R.grow x1
  have hfd:∃ d,f ρ= .ok d:=by
   cases q:f ρ with
   | ok d=>exact ⟨d,rfl⟩
   | exc c=>exact absurd q (hex ρ c)
   | bad=>rw [q] at k; exact k.elim
  obtain ⟨d0,ed0⟩:=hfd
  have M:=k.res2 ed0 (Same.refl B)
  have e0:((fi ρ).out fun i=>(f ρ).out fun d=>ql j l ρ d i)=ql j l ρ d0 di:=by rw [bO ei,bO ed0]
  unfold ql at M
  split at M
  ·rename_i k0
   rw [rep_int] at ri
   subst ri
   cases q:q_ l.length k0 with
   | none=>rw [q] at M; exact M.elim
   | some m=>
    rw [q] at M
    dsimp only at M
    split at M
    ·rename_i row P
     by_cases hc:aL row.length=true
     ·have e0:=e0.trans (show ql j l ρ d0 (.int k0)= .nx (ρ.set j (some (.lst (l.set m (.lst (row ++ [d0])))))) by unfold ql; dsimp only; rw [q]; dsimp only; rw [P]; exact if_pos hc)
      refine FW (R.row (row':=[]) (ys':=[]) hm h1 h2 h3 h4 P) fun b ys U c1 c2 c3 c4 c5 c6 c7 _=> ?_
      refine (zI a xs k0 (.ref b) rfl rfl (.inl (.inl (x1.hh _ _ h2))) (by unfold L2.atI; rw [← h4.length,q]; exact c1) (.inl ⟨rfl,ys,.inl (.inl (x1.hh _ _ c2))⟩) ⟨Ge,B,_,ρ,fp,R1,k.res,fun d ed v G2 H2 S R2 sg sh o w=> ?_⟩)
      rw [ed0] at ed
      cases ed
      refine (oA b ys v rfl rfl (sh _ _ (x1.hh _ _ c2)) (by rw [← c3.length]; exact gd hc) ?_)
      refine jd (R2.top hr hm) fun a2 xs2 T2 g1 g2 g3 g4=> ?_
      rw [h1] at g1
      cases g1
      rw [sh _ _ (x1.hh _ _ h2)] at g2
      cases g2
      refine FW (R2.row (row':=row ++ [d0]) (ys':=ys ++ [v]) hm h1 (sh _ _ (x1.hh _ _ h2)) g3 g4 P) fun b2 ys2 U2 p1 p2 p3 p4 p5 p6 p7 p8=> ?_
      rw [c1] at p1
      cases p1
      rw [sh _ _ (x1.hh _ _ c2)] at p2
      cases p2
      have fr:=R2.freshOf w R1
      have neU:∀ c,c∈U2→c≠b:=fun c L z=>p5 (z ▸ L)
      have neS:∀ c,c∈S→c≠b:=fun c L z=>(fr c L).2 j (z ▸ p6)
      obtain ⟨O,R3⟩:=p8 (U2 ++ S) (.append (p3.mono fun d v A _ hA z=>z.mono (.refl _) fun c L u e=>by rw [ai (neU c (hA c L))]; exact e) (.one (o.mono (.refl _) fun c L u e=>by rw [ai (neS c L)]; exact e))) (List.nodup_append.mpr ⟨p4,w.1,fun c L c2 hc2 e=>by subst e; exact (fr c hc2).2 j (p7 c L)⟩) (fun c L=>(List.mem_append.mp L).imp id (fr c))
      exact (jh _ _ O e0 rfl R3 ((R.gg x1).trans sg))
     ·rw [if_neg hc] at M; exact M.elim
    ·exact M.elim
  ·exact M.elim
 ·cases fl with
  | next=>
   obtain ⟨σ',H',I',Q,G',O,e1,e2,R',sg⟩:=J
   subst e2
   exact ⟨Q,_,G',H',O,e1,I',R',sg⟩
  | brk=>obtain ⟨_,_,_,J⟩:=J; exact J.elim
  | cont=>obtain ⟨_,_,_,J⟩:=J; exact J.elim
  | ret u=>obtain ⟨_,_,_,_,_,J⟩:=J; exact J.elim
end
section
variable{prog:Program}{w:World}{A:Around}{R:Result→Shared→Prop}{I S:Addr}{fp wr:List Addr}{n:Nat}{P:Nat→Value→Prop}{St:Nat→Heap→Prop}{C:Heap→Prop}
noncomputable def Bw (prog:Program)(w:World)(A:Around)(C:Heap→Prop)(P:Nat→Value→Prop)(bt:Nat→Nat→Bool):Prop:=
 ∀ i j vi vj (s:Shared) (Q:Value→Shared→Prop) (E:Value→Shared→Prop),C s.heap→P i vi→P j vj→Q (.bool (bt i j)) s→wpAny (model prog w) A (richCompare .Lt vi vj) Q E s
noncomputable def AZ (wr:List Addr)(S:Addr)(C:Heap→Prop):Prop:=∀ h h',C h→(∀ b o,b∉wr→b≠S→h.get? b=some o→h'.get? b=some o)→C h'
theorem xE (W:Walks prog w A.in1 I fp wr n P St)(bt:Nat→Nat→Bool)(hcmp:Bw prog w A.in1 C P bt)(hC:AZ wr S C)(hSf:S∉fp) :
  ∀ (k j:Nat) (s:Shared) (vb:Value) (c:Nat),n - (j+1)=k→j+1≤n→St (j+1) s.heap→C s.heap→P (argBest bt j) vb→
  s.heap.get? S=some { cls:= .type "list",dict:=none,data:= .seq #[vb,vb] c,slots:= #[] }→
  (∀ v h' tk,P (argBest bt (n - 1)) v→(∀ b o,b∉wr→b≠S→s.heap.get? b=some o→h'.get? b=some o)→R (.ok (.ret v)) { s with heap:=h',toks:=tk })→
  codeAny (model prog w) A (.builtin "min.loop" ⟨[.ref I,.none,.ref S],[]⟩) R s:=by
 have hSw:S∉wr:=fun h=>hSf (W.sub _ h)
 have T:(toString "min" ++ toString ".loop" :String)= "min.loop" :=by decide
 intro k
 induction k with
 | zero=>
  intro j s vb c hk hj hst hc X hS hR
  have hin:j+1=n:=by omega
  refine codeAny_builtin PySem.F.entry_min_loop ?_
  rw [Around.under_plainId PySem.F.plain_min_loop _]
  show wpAny _ A.in1 (seqItems? (.ref S) >>= _) _ _ s
  refine wpAny_bind (wpAny_seqItems hS rfl ?_)
  show wpAny _ A.in1 (tryCatch (pyNext (.ref I)) _ >>= _) _ _ s
  refine wpAny_bind (wpAny_tryCatch (W.done s _ _ (hin ▸ hst) fun h' tk Q=> ?_))
  have hS':=Q S _ hSw hS
  show wpAny _ A.in1 (updateSeq S (fun _=> #[]) >>= _) _ _ _
  refine wpAny_bind ?_
  refine wpAny_updateSeq hS' rfl (wpAny_bind (wpAny_letGo (wpAny_pure ?_)))
  refine hR vb _ tk (by rw [← hin]; exact X) fun b o N O e=>(Heap.get?_update_other _ _ (Ne.symm O)).trans (Q b o N e)
 | succ k ih=>
  intro j s vb c hk hj hst hc X hS hR
  have hlt:j+1 < n:=by omega
  refine codeAny_builtin PySem.F.entry_min_loop ?_
  rw [Around.under_plainId PySem.F.plain_min_loop _]
  show wpAny _ A.in1 (seqItems? (.ref S) >>= _) _ _ s
  refine wpAny_bind (wpAny_seqItems hS rfl ?_)
  show wpAny _ A.in1 (tryCatch (pyNext (.ref I)) _ >>= _) _ _ s
  refine wpAny_bind (wpAny_tryCatch (W.item (j+1) s _ _ hlt hst fun v h' tk hP hst' Q=> ?_))
  have hS':=Q S _ hSw hS
  have hc':C h':=hC _ _ hc fun b o N _ e=>Q b o N e
  show wpAny _ A.in1 (tryCatch (holding [v,v] (richCompare .Lt v vb >>= _)) _ >>= _) _ _ _
  refine wpAny_bind (wpAny_tryCatch (wpAny_holding (wpAny_bind (hcmp (j+1) (argBest bt j) v vb { s with heap:=h',toks:=tk } _ _ hc' hP X ?_))))
  refine wpAny_bind (wpAny_holding (wpAny_truthy_bool ?_))
  refine wpAny_bind (wpAny_letGo (wpAny_pure ?_))
  cases hb:bt (j+1) (argBest bt j) with
  | true=>
   simp only [if_true]
   refine wpAny_bind ?_
   refine wpAny_updateSeq hS' rfl (wpAny_bind (wpAny_letGo ?_))
   rw [T]
   refine wpAny_pure ⟨plainId_quiet PySem.F.plain_min_loop _,ih (j+1) _ v _ (by omega) hlt (W.frame _ _ _ hst' fun b hbf o e=> ?_) (hC _ _ hc' fun b o _ O e=>(Heap.get?_update_other _ _ (Ne.symm O)).trans e) (by simp only [argBest,hb,if_true]; exact hP) (Heap.get?_update_self _ hS' rfl)
    fun v' h'' V hP' U=> ?_⟩
   ·exact (Heap.get?_update_other _ _ (fun h:S=b=>hSf (by rw [h]; exact hbf))).trans e
   ·exact hR v' h'' V hP' fun b o N O e=>U b o N O ((Heap.get?_update_other _ _ (Ne.symm O)).trans (Q b o N e))
  | false=>
   simp only [Bool.false_eq_true,if_false]
   refine wpAny_bind (wpAny_letGo ?_)
   rw [T]
   refine wpAny_pure ⟨plainId_quiet PySem.F.plain_min_loop _,ih (j+1) _ vb c (by omega) hlt hst' hc' (by simp only [argBest,hb,Bool.false_eq_true,if_false]; exact X) hS' fun v' h'' V hP' U=> ?_⟩
   exact hR v' h'' V hP' fun b o N O e=>U b o N O (Q b o N e)
theorem vT (W:Walks prog w A.in1 I fp wr n P St)(bt:Nat→Nat→Bool)(hcmp:Bw prog w A.in1 C P bt)(hC:AZ wr S C)(hSf:S∉fp)(hn:0 < n){s:Shared}{c:Nat}(hst:St 0 s.heap)(hc:C s.heap)
  (hS:s.heap.get? S=some { cls:= .type "list",dict:=none,data:= .seq #[] c,slots:= #[] })
  (hR:∀ v h' tk,P (argBest bt (n - 1)) v→(∀ b o,b∉wr→b≠S→s.heap.get? b=some o→h'.get? b=some o)→R (.ok (.ret v)) { s with heap:=h',toks:=tk }) :
  codeAny (model prog w) A (.builtin "min.loop" ⟨[.ref I,.none,.ref S],[]⟩) R s:=by
 have hSw:S∉wr:=fun h=>hSf (W.sub _ h)
 have hname:(toString "min" ++ toString ".loop" :String)= "min.loop" :=by decide
 refine codeAny_builtin PySem.F.entry_min_loop ?_
 rw [Around.under_plainId PySem.F.plain_min_loop _]
 show wpAny _ A.in1 (seqItems? (.ref S) >>= _) _ _ s
 refine wpAny_bind (wpAny_seqItems hS rfl ?_)
 show wpAny _ A.in1 (tryCatch (pyNext (.ref I)) _ >>= _) _ _ s
 refine wpAny_bind (wpAny_tryCatch (W.item 0 s _ _ hn hst fun v h' tk hP hst' hk'=> ?_))
 have hS':=hk' S _ hSw hS
 have hc':C h':=hC _ _ hc fun b o N _ e=>hk' b o N e
 show wpAny _ A.in1 (updateSeq S (fun _=> #[v,v]) >>= _) _ _ _
 refine wpAny_bind ?_
 refine wpAny_updateSeq hS' rfl ?_
 rw [hname]
 refine wpAny_pure ⟨plainId_quiet PySem.F.plain_min_loop _,xE W bt hcmp hC hSf _ 0 _ v _ rfl hn (W.frame _ _ _ hst' fun b hbf o e=> ?_) (hC _ _ hc' fun b o _ O e=>(Heap.get?_update_other _ _ (Ne.symm O)).trans e) hP (Heap.get?_update_self _ hS' rfl) fun v' h'' tk'' hP' hk''=> ?_⟩
 ·exact (Heap.get?_update_other _ _ (fun h:S=b=>hSf (by rw [h]; exact hbf))).trans e
 ·exact hR v' h'' tk'' hP' fun b o N O e=>hk'' b o N O ((Heap.get?_update_other _ _ (Ne.symm O)).trans (hk' b o N e))
end
section
variable{prog:Program}{w:World}{A:Around}{E:Value→Shared→Prop}{s:Shared}
theorem xF {l:Addr}{its:Array Value}{C:Heap→Prop}{bt:Nat→Nat→Bool}{Q:Value→Shared→Prop}(hh:A.handled=none)(hl:s.heap.IsList l its)(hn:0 < its.size)(hcmp:Bw prog w A.in1 C (fun i v=>its[i]?=some v) bt)(hc:C s.heap)
  (hC:∀ h h',C h→(∀ b o,b < s.heap.objs.size→h.get? b=some o→h'.get? b=some o)→C h')
  (h:∀ v h' tk,its[argBest bt (its.size - 1)]?=some v→(∀ b o,s.heap.get? b=some o→h'.get? b=some o)→Q v { s with heap:=h',toks:=tk }) :
  wpAny (model prog w) A (call (.builtin "min") [.ref l]) Q E s:=by
 have hname:(toString "min" ++ toString ".loop" :String)= "min.loop" :=by decide
 refine call_function_tree PySem.F.kind_min PySem.F.plain_min PySem.F.entry_min (PySem.F.args_min1 _) ?_
 show wpAny _ A.in1 (Builtin.Builtins.bindParams "min" ["key","default"] 0 ⟨[],[]⟩ >>= _) _ _ s
 refine wpAny_bind (wpAny_of_eq (show Builtin.Builtins.bindParams "min" ["key","default"] 0 ⟨[],[]⟩=pure [none,none] from rfl) ?_)
 refine wpAny_bind (wpAny_pure ?_)
 have hlt:l < s.heap.objs.size:=by obtain ⟨o,e,_⟩:=hl; exact Heap.lt_size e
 have hne:l≠s.heap.objs.size:=Nat.ne_of_lt hlt
 have hz:(s.heap.push { cls:= .type "list_iterator",data:= .fields #[.ref l,.int 0 0] }).objs.size=s.heap.objs.size+1:=Heap.size_push ..
 refine wpAny_bind (wpAny_pyIter_list hl ?_)
 refine wpAny_bind (wpAny_newObj_type ?_)
 rw [hname]
 have W:=Walks.list (prog:=prog) (w:=w) (A:=A.in1) hh s.heap.objs.size l hne its
 have old:∀ b o,s.heap.get? b=some o→b < s.heap.objs.size:=fun b o e=>Heap.lt_size e
 refine wpAny_pure ⟨plainId_quiet PySem.F.plain_min_loop _,vT (C:=C) W bt hcmp (fun h1 h2 c k=>hC h1 h2 c fun b o hb e=>k b o (fun z=> ?_) (fun z=> ?_) e) (fun z=> ?_) hn ?_ (hC _ _ hc fun b o _ e=>Heap.get?_push_of_some _ (Heap.get?_push_of_some _ e)) (Heap.get?_push_size _ rfl) fun v h2 tk hv hk=> ?_⟩
 ·have z:b=s.heap.objs.size:=by simpa using z
  rw [z] at hb; exact absurd hb (Nat.lt_irrefl _)
 ·rw [z] at hb
  have hb:(s.heap.push { cls:= .type "list_iterator",data:= .fields #[.ref l,.int 0 0] }).objs.size < s.heap.objs.size:=hb
  rw [hz] at hb; exact absurd hb (Nat.not_lt_of_le (Nat.le_succ _))
 ·have z:(s.heap.push { cls:= .type "list_iterator",data:= .fields #[.ref l,.int 0 0] }).objs.size=s.heap.objs.size∨(s.heap.push { cls:= .type "list_iterator",data:= .fields #[.ref l,.int 0 0] }).objs.size=l:=by simpa using z
  rw [hz] at z
  rcases z with z | z
  ·exact absurd z (Nat.succ_ne_self _)
  ·rw [← z] at hlt; exact absurd hlt (Nat.not_lt_of_le (Nat.le_succ _))
 ·obtain ⟨o,e,r⟩:=hl
  exact (mM (ik _ (Heap.get?_push_of_some _ (Heap.get?_push_size _ rfl)) rfl rfl) o (Heap.get?_push_of_some _ (Heap.get?_push_of_some _ e)) r)
 ·refine h v h2 tk hv fun b o e=>hk b o (fun z=> ?_) (fun z=> ?_) (Heap.get?_push_of_some _ (Heap.get?_push_of_some _ e))
  ·have z:b=s.heap.objs.size:=by simpa using z
   exact absurd (old b o e) (by rw [z]; exact Nat.lt_irrefl _)
  ·have:=old b o e
   rw [z] at this
   have this:(s.heap.push { cls:= .type "list_iterator",data:= .fields #[.ref l,.int 0 0] }).objs.size < s.heap.objs.size:=this
   rw [hz] at this; exact absurd this (Nat.not_lt_of_le (Nat.le_succ _))
end
noncomputable def Dt:D→Option (List Int)
 | .tup l=>allInts l
 | _=>none
noncomputable def fA:List D→Option (List (List Int))
 | []=>some []
 | d :: ds=>match Dt d,fA ds with
  | some t,some ts=>some (t :: ts)
  | _,_=>none
theorem jp:∀ {l:List D} {ts:List (List Int)},fA l=some ts→l=ts.map fun t=> .tup (t.map D.int)
 | [],ts,h=>by unfold fA at h; cases h; rfl
 | d :: ds,ts,h=>by
  unfold fA at h
  split at h
  ·rename_i t us e1 e2
   cases h
   rw [List.map_cons,← jp e2]
   unfold Dt at e1
   split at e1
   ·rename_i l; rw [gE e1]
   ·cases e1
  ·cases h
theorem iC:∀ (ts:List (List Int)),fA (ts.map fun t=> .tup (t.map D.int))=some ts
 | []=>rfl
 | t :: ts=>by
  rw [List.map_cons]
  unfold fA
  rw [iC ts]
  unfold Dt
  dsimp only
  rw [fz]
noncomputable def fB (t:List Int)(ts:List (List Int)):List Int:=ts.foldl (fun b u=>if HT.a_ u b=true then u else b) t
noncomputable def j7:List D→Res D
 | [.lst l]=>match fA l with | some (t :: ts)=> .ok (.tup ((fB t ts).map D.int)) | _=> .bad
 | _=> .bad
theorem uc (ts:List (List Int))(t:List Int):∀ k,k≤ts.length→(t :: ts)[argBest (fun i j=>HT.a_ ((t :: ts).getD i []) ((t :: ts).getD j [])) k]?=some (fB t (ts.take k))
 | 0,_=>rfl
 | k+1,h=>by
  have ih:=uc ts t k (by omega)
  have hk:k < ts.length:=h
  have e1:(t :: ts).getD (k+1) []=ts[k]:=by simp [List.getD,hk]
  have e2:(t :: ts).getD (argBest (fun i j=>HT.a_ ((t :: ts).getD i []) ((t :: ts).getD j [])) k) []=fB t (ts.take k):=by
   rw [List.getD_eq_getElem?_getD,ih]
   rfl
  have e3:ts.take (k+1)=ts.take k ++ [ts[k]]:=by rw [List.take_add_one]; simp [hk]
  have e4:fB t (ts.take (k+1))=if HT.a_ ts[k] (fB t (ts.take k))=true then ts[k] else fB t (ts.take k):=by
   rw [e3]
   unfold fB
   rw [List.foldl_append]
   rfl
  rw [e4]
  unfold argBest
  rw [e1,e2]
  by_cases hb:HT.a_ ts[k] (fB t (ts.take k))=true
  ·rw [if_pos hb,if_pos hb]
   simp [hk]
  ·rw [if_neg hb,if_neg hb]
   exact ih
section
variable{X:Cx}{E:XK}
noncomputable def sm (K:W.Frag)(H:Hp)(vs:List V)(ts:List (List Int)):Prop:=vs.length=ts.length∧∀ (i:Nat) (v:V) (t:List Int),vs[i]?=some v→ts[i]?=some t→∃ a,v= .ref a∧lL K H a (t.map V.int)
theorem vf (hc:X.calm=true)(hu:X.A.units+64 < cLine):eD X (.builtin "min") (fun xs H Q=>∃ p vs t ts,xs=[.ref p]∧gs X.K H p vs∧sm X.K H vs (t :: ts)∧∀ (v:V) (i:Nat),vs[i]?=some v→(t :: ts)[i]?=some (fB t ts)→Q v H):=by
 intro pins s σ H xs us Q I r h
 refine cps fun PP kP=> ?_
 refine o_ (h) fun p vs t ts hS135 sq hS136 q=> ?_; subst hS135; obtain ⟨hlen,htup⟩:=hS136
 obtain ⟨u,rfl,ru⟩:=kz r
 refine kP ?_; clear kP PP
 cases (show u= .ref p from ru)
 refine cw (I.list sq) fun E rv pl _=> ?_
 have hl:=pl.isList
 have hil:E.length=ts.length+1:=by rw [← rv.length,hlen]; rfl
 have tup:∀ i u,E[i]?=some u→∃ a items,u= .ref a∧IsTup s.heap a items∧IntsAre items.toList ((t :: ts).getD i [])∧a < s.heap.objs.size:=fun i u hu=>by
  have hi:i < E.length:=(fG hu).1
  have hi':i < (t :: ts).length:=by rw [List.length_cons]; omega
  have hiv:i < vs.length:=by rw [hlen]; exact hi'
  obtain ⟨u',U,W⟩:=rv.get (ij hiv)
  rw [hu] at U
  cases U
  obtain ⟨a,ea,sqa⟩:=htup i vs[i] (t :: ts)[i] (ij hiv) (ij hi')
  rw [ea] at W
  cases W
  refine cw (I.tuple sqa) fun its2 r2 p2 _=> ?_
  refine (kR a its2.toArray rfl p2 ?_ (by obtain ⟨o,e,_⟩:=p2; exact Heap.lt_size e))
  have:(t :: ts).getD i []=(t :: ts)[i]:=by rw [List.getD_eq_getElem?_getD,ij hi']; rfl
  rw [this]
  exact gQ r2
 refine xF (C:=fun h=>∀ i u,E[i]?=some u→∃ a items,u= .ref a∧IsTup h a items∧IntsAre items.toList ((t :: ts).getD i [])∧a < s.heap.objs.size) (bt:=fun i j=>HT.a_ ((t :: ts).getD i []) ((t :: ts).getD j [])) (I.ok.hd hc) hl (by simp; omega) (fun i j vi vj s' Q' E' hC hi hj hQ=> ?_) tup (fun h h' hC k i u hu=> ?_) fun v h' tk hv hk=> ?_
 ·have hi:E[i]?=some vi:=by simpa using hi
  have hj:E[j]?=some vj:=by simpa using hj
  refine nZ (hC i vi hi) fun a ia e1 p1 n1 _=> ?_
  refine nZ (hC j vj hj) fun b ib e2 p2 n2 _=> ?_
  subst e1 e2
  exact HT.sV p1 p2 n1 n2 (show X.A.in1.units < cLine from Nat.lt_of_le_of_lt (by show X.A.units+1≤X.A.units+64; omega) hu) hQ
 ·refine nZ (hC i u hu) fun a ia e1 p1 n1 l1=> ?_
  obtain ⟨o,e,c⟩:=p1
  exact (kR a ia e1 ⟨o,k a o l1 e,c⟩ n1 l1)
 ·have hsz:E.toArray.size - 1=ts.length:=by simp; omega
  rw [hsz] at hv
  have hb:=uc ts t ts.length (Nat.le_refl _)
  rw [List.take_length] at hb
  have hv:E[argBest (fun i j=>HT.a_ ((t :: ts).getD i []) ((t :: ts).getD j [])) ts.length]?=some v:=by simpa using hv
  obtain ⟨hlt,_⟩:=fG hv
  have hltv:argBest (fun i j=>HT.a_ ((t :: ts).getD i []) ((t :: ts).getD j [])) ts.length < vs.length:=by rw [rv.length]; exact hlt
  obtain ⟨u',U,W⟩:=rv.get (ij hltv)
  rw [hv] at U
  cases U
  exact ⟨_,H,I.kept hk,W,q _ _ (ij hltv) hb⟩
theorem oX {K:W.Frag}{G H:Hp}(hs:Same G H):∀ {ts:List (List Int)} {vs:List V},RepL K G (ts.map fun t=> .tup (t.map D.int)) vs→sm K H vs ts:=by
 intro ts vs rl
 refine ⟨by rw [← rl.length,List.length_map],fun i v t hv ht=> ?_⟩
 obtain ⟨w,hw,rw'⟩:=rl.get (i:=i) (d:= .tup (t.map D.int)) (by rw [List.getElem?_map,ht]; rfl)
 rw [hv] at hw
 cases hw
 rw [rep_tup] at rw'
 refine bp (rw') fun a xs hS137 sq rl2=> ?_; subst hS137
 rw [rl2.ints] at sq
 exact ⟨a,rfl,hs.seqT sq.sq⟩
theorem z9 {e:Expr}{p pos:Pos}{f:DS→Res D}(hu:X.A.units+64 < cLine)(hm:X.mg "min" =none)(h:PD X E e f)(hc:X.calm=true:=by rfl)(hg:Gl X "min" :=by rfl)(he:starEach [e] X.env=(false,eval e X.env) :: starEach [] X.env:=by rfl):PD X E (.Call (.Name "min" p) [e] [] pos) (fun ρ=>(f ρ).bind fun a=>j7 [a]):=by
 have key:PD X E (.Call (.Name "min" p) [e] [] pos) (bx (fun ρ=>(f ρ).bind fun d=>(Res.ok []:Res (List D)).bind fun ds=> .ok (d :: ds)) j7):=iP (vf hc hu) (fun G H vs ds Q hs rl ok k=>by
  unfold j7 at ok k
  split at ok
  ·rename_i l
   dsimp only at k
   split at ok
   ·rename_i t ts q
    rw [q] at k
    dsimp only at k
    have e:=jp q
    refine cps fun PP kP=> ?_
    subst e
    obtain ⟨v,r,rfl,rx,r0⟩:=rl.inv
    refine kP ?_; clear kP PP
    rw [r0.inv0]
    rw [rep_lst] at rx
    obtain ⟨pp,xs,rfl,sq,rx⟩:=rx
    refine ⟨pp,xs,t,ts,rfl,hs.seq sq.sq,oX hs rx,fun v i hv ht=> ?_⟩
    obtain ⟨w,hw,rw'⟩:=rx.get (i:=i) (d:= .tup ((fB t ts).map D.int)) (by rw [List.getElem?_map,ht]; rfl)
    rw [hv] at hw
    cases hw
    exact k _ _ G H rfl (.refl hs) rw'
   ·exact ok.elim
  ·exact ok.elim) hg hm BF (aa h ae he) (by decide) (by decide) he rfl
 intro pins s σ G H ρ I hs hro ho
 have e0:∀ ρ,bx (fun ρ=>(f ρ).bind fun d=>(Res.ok []:Res (List D)).bind fun ds=> .ok (d :: ds)) j7 ρ=(f ρ).bind fun a=>j7 [a]:=fun ρ=>by
  show Res.bind (Res.bind (f ρ) _) _=_
  cases f ρ <;> rfl
 have:=key pins s σ G H ρ I hs hro (by rw [e0]; exact ho)
 rw [e0] at this
 exact this
end
noncomputable def no {α:Type}(n:Nat)(lt:Nat→Nat→Bool):W.KasT α→Option α
 | .ret a=>some a
 | .ask i j k=>if i < n∧j < n then no n lt (k (lt i j)) else none
theorem ra {α:Type}{cmp:Nat→Nat→(Bool→Shared→Prop)→Shared→Prop}{n:Nat}{lt:Nat→Nat→Bool}{s:Shared}(hc:∀ i j (Q:Bool→Shared→Prop),i < n→j < n→Q (lt i j) s→cmp i j Q s):∀ (t:W.KasT α) (p:α) (Q:α→Shared→Prop),no n lt t=some p→Q p s→t.kasWp cmp Q s
 | .ret a,p,Q,h,q=>by unfold no at h; cases h; exact q
 | .ask i j k,p,Q,h,q=>by
  unfold no at h
  split at h
  ·rename_i hb
   exact hc i j _ hb.1 hb.2 (ra hc (k (lt i j)) p Q h q)
  ·cases h
section
variable{prog:Program}{w:World}{A:Around}{E:Value→Shared→Prop}{s:Shared}
theorem rb {b fin:Bool}{Q:Bool→Shared→Prop}:∀ {vs ws:List Value} {ns ms:List Int} (i:Nat),IntsAre vs ns→IntsAre ws ms→fin=decide (ns.length < ms.length)→Q (HT.a_ ns ms) s→W.KatLex prog w A b fin Q (vs.zip ws) i s
 | _,_,_,_,i,.nil,.nil,hf,h=>by
  rw [HT.ji] at h
  rw [List.zip_nil_left]
  exact W.kat_nil (by rw [hf]; exact h)
 | _,_,_,_,i,.nil,.cons n t h2,hf,h=>by
  rw [HT.iL] at h
  rw [List.zip_nil_left]
  exact W.kat_nil (by rw [hf]; simpa using h)
 | _,_,_,_,i,.cons n t h1,.nil,hf,h=>by
  rw [HT.iK] at h
  rw [List.zip_nil_right]
  exact W.kat_nil (by rw [hf]; simpa using h)
 | _,_,_,_,i,.cons n t h1,.cons m u h2,hf,h=>by
  rw [HT.gS] at h
  rw [List.zip_cons_cons]
  refine W.kat_cons (wpAny_eqBool_int ?_)
  by_cases e:n=m
  ·rw [if_pos e] at h
   have e':(n == m)=true:=by simp [e]
   rw [e']
   exact W.kat_yes (rb (i+1) h1 h2 (by rw [hf]; simp) h)
  ·rw [if_neg e] at h
   have e':(n == m)=false:=beq_eq_false_iff_ne.mpr e
   rw [e']
   refine W.kat_no ?_
   cases hb:(b && i == 0) with
   | true=>exact oneLt_int h
   | false=>exact W.kat_one _ _ (lt_int (by exact h))
theorem AH {x y:Addr}{xs ys:Array Value}{ns ms:List Int}{b:Bool}{Q:Bool→Shared→Prop}(hx:IsTup s.heap x xs)(hy:IsTup s.heap y ys)(ix:IntsAre xs.toList ns)(iy:IntsAre ys.toList ms)(h:Q (HT.a_ ns ms) s):wpAny (model prog w) A (keyLt' (tuples' b) (.ref x) (.ref y)) Q E s:=by
 refine wq (hx) fun ox hox _ n dx=> ?_
 refine wq (hy) fun oy hoy _ k dy=> ?_
 refine W.kat_lt hox dx hoy dy (rb 0 ix iy ?_ h)
 have h1:=ix.length
 have h2:=iy.length
 rw [Array.length_toList] at h1 h2
 rw [h1,h2]
noncomputable def TupsIn (h:Heap)(vs:List Value)(ts:List (List Int)):Prop:=vs.length=ts.length∧∀ (i:Nat) (v:Value),vs[i]?=some v→∃ b items,v= .ref b∧IsTup h b items∧IntsAre items.toList (ts.getD i [])∧ts.getD i []≠[]
theorem TupsIn.keep {h h':Heap}{vs:List Value}{ts:List (List Int)}(x:TupsIn h vs ts)(k:∀ b o,h.get? b=some o→o.cls= .type "tuple" →h'.get? b=some o):TupsIn h' vs ts:=⟨x.1,fun i v hv=>by
 refine bp (x.2 i v hv) fun b items e hS138 r=> ?_; obtain ⟨o,ho,hc,hd⟩:=hS138
 exact (du b items e (ik o (k b o ho hc) hc hd) r)⟩
theorem mO {h:Heap}:∀ {vs:List Value} {ts:List (List Int)},TupsIn h vs ts→∃ fs:List Value,W.KatTups h vs fs∧fs.length=vs.length∧∀ v∈fs,∃ n t,v= .int n t
 | [],ts,_=>(ik ([]) .nil rfl (fun v hv=>nomatch hv))
 | v :: vs,ts,x=>by
  obtain ⟨t,X,rfl⟩:∃ t X,ts=t :: X:=by
   match ts,x.1 with
   | [],h=>simp at h
   | t :: X,_=>exact ⟨t,X,rfl⟩
  refine cps fun PP kP=> ?_
  refine nZ (x.2 0 v rfl) fun b Y e hS139 hi hne=> ?_; obtain ⟨o,ho,hc,nn,hd⟩:=hS139
  have hi:IntsAre Y.toList t:=hi
  have hne:t≠[]:=hne
  refine cw (mO (vs:=vs) (ts:=X) ⟨by have:=x.1; simpa using this,fun i u hu=>x.2 (i+1) u (by simpa using hu)⟩) fun fs h1 h2 h3=> ?_
  refine kP ?_; clear kP PP
  subst e
  cases q:Y.toList with
  | nil=>rw [q] at hi; cases hi; exact absurd rfl hne
  | cons f r=>
   rw [q] at hi
   cases hi with
   | cons n tk hi'=>
    refine (ik (.int n tk :: fs) (.cons ho hc hd ?_ h1) (by simp [h2]) (fun u hu=> ?_))
    ·rw [← Array.getElem?_toList,q]; rfl
    ·rcases List.mem_cons.mp hu with z | z
     ·exact ⟨n,tk,z⟩
     ·exact h3 u z
theorem nN {a:Addr}{vs:List Value}{n:Nat}{P:Fin→Shared→Prop}(ho:s.heap.get? a=some (seqObj "list" vs.toArray n))(h1:vs.length < 2)(h:P (.done (.ret .none)) { s with heap:=sortedHeap s.heap a vs vs.toArray }):wpAny (model prog w) A (Builtin.«list.sort» ⟨[.ref a],[]⟩) P E s:=by
 rw [list_sort_plain]
 have ha:a < s.heap.objs.size:=Heap.lt_size ho
 refine wpAny_bind (listItems_at ho rfl ?_)
 refine wpAny_bind (listUpdate_at ho rfl ?_ (by rw [List.size_toArray,sizeLine_eq]; omega) (Nat.zero_le _))
 obtain ⟨e1,ho1⟩:∃ e1,(s.heap.update a (Obj.mapSeq fun _=> #[])).get? a=some (seqObj "list" #[] e1):=⟨_,get?_update_seq ho (fun _=> #[])⟩
 refine wpAny_bind (seqEpoch_at ho1 rfl ?_)
 refine wpAny_bind (wpAny_newTuple ?_ (by show vs.length≤_; rw [sizeLine_eq]; omega))
 refine wpAny_bind (wpAny_newList ?_ (Nat.zero_le _))
 refine wpAny_holding ?_
 have ho6:(((s.heap.update a (Obj.mapSeq fun _=> #[])).push (seqObj "tuple" vs.toArray 0)).push (seqObj "list" #[] 0)).get? a=some (seqObj "list" #[] e1):=Heap.get?_push_of_some _ (Heap.get?_push_of_some _ ho1)
 show wpAny (model prog w) A _ P E { s with heap:=((s.heap.update a (Obj.mapSeq fun _=> #[])).push (seqObj "tuple" vs.toArray 0)).push (seqObj "list" #[] 0) }
 dsimp only
 have h2:vs.toArray.size < 2:=by rw [List.size_toArray]; exact h1
 rw [if_pos h2,if_pos h2]
 refine wpAny_bind (wpAny_pure ?_)
 rw [StateT.run_pure]
 refine wpAny_bind (wpAny_pure ?_)
 dsimp only
 refine wpAny_bind (seqEpoch_at ho6 rfl ?_)
 have hz:(arrOf (SortSt.mk' general' (vs.toArray.zip vs.toArray) #[] 7 none)).map (·.2)=vs.toArray:=by
  show (vs.toArray.zip vs.toArray).map (·.2)=vs.toArray
  apply Array.toList_inj.mp
  simp [List.map_snd_zip]
 rw [hz]
 refine wpAny_bind (listUpdate_at ho6 rfl ?_ (Nat.zero_le _) (by rw [List.size_toArray,sizeLine_eq]; omega))
 simp only [bne_self_eq_false,Bool.false_eq_true,if_false]
 exact wpAny_pure h
theorem mX {a:Addr}{vs:List Value}{ts:List (List Int)}{n:Nat}{p:Array Nat}{P:Fin→Shared→Prop}(ho:s.heap.get? a=some (seqObj "list" vs.toArray n))(hT:TupsIn s.heap vs ts)(h2:2≤vs.length)(h64:vs.length < 64)
  (hr:no vs.length (fun i j=>HT.a_ (ts.getD i []) (ts.getD j [])) (W.kas_sort vs.length)=some p) (h:P (.done (.ret .none)) { s with heap:=sortedHeap s.heap a vs (List.toArray (p.toList.map fun i=>vs.getD i Value.none)) }) (hp:p.size=vs.length):wpAny (model prog w) A (Builtin.«list.sort» ⟨[.ref a],[]⟩) P E s:=by
 rw [list_sort_plain]
 have ha:a < s.heap.objs.size:=Heap.lt_size ho
 refine wpAny_bind (listItems_at ho rfl ?_)
 refine wpAny_bind (listUpdate_at ho rfl ?_ (by rw [List.size_toArray,sizeLine_eq]; omega) (Nat.zero_le _))
 obtain ⟨e1,ho1⟩:∃ e1,(s.heap.update a (Obj.mapSeq fun _=> #[])).get? a=some (seqObj "list" #[] e1):=⟨_,get?_update_seq ho (fun _=> #[])⟩
 refine wpAny_bind (seqEpoch_at ho1 rfl ?_)
 refine wpAny_bind (wpAny_newTuple ?_ (by show vs.length≤_; rw [sizeLine_eq]; omega))
 refine wpAny_bind (wpAny_newList ?_ (Nat.zero_le _))
 refine wpAny_holding ?_
 have ho6:(((s.heap.update a (Obj.mapSeq fun _=> #[])).push (seqObj "tuple" vs.toArray 0)).push (seqObj "list" #[] 0)).get? a=some (seqObj "list" #[] e1):=Heap.get?_push_of_some _ (Heap.get?_push_of_some _ ho1)
 show wpAny (model prog w) A _ P E { s with heap:=((s.heap.update a (Obj.mapSeq fun _=> #[])).push (seqObj "tuple" vs.toArray 0)).push (seqObj "list" #[] 0) }
 dsimp only
 have hn2:¬ vs.toArray.size < 2:=by rw [List.size_toArray]; omega
 rw [if_neg hn2,if_neg hn2]
 have hT2:TupsIn (((s.heap.update a (Obj.mapSeq fun _=> #[])).push (seqObj "tuple" vs.toArray 0)).push (seqObj "list" #[] 0)) vs ts:=hT.keep fun b o e hc=>by
  have hb:b≠a:=fun z=>by rw [z,ho] at e; cases e; injection hc with hc; exact absurd hc (by decide)
  exact Heap.get?_push_of_some _ (Heap.get?_push_of_some _ ((Heap.get?_update_other _ _ (Ne.symm hb)).trans e))
 refine cw (mO hT2) fun fs k1 k2 k3=> ?_
 refine wpAny_bind (W.kat_kind (T:= .type "int") (s:={ s with heap:=((s.heap.update a (Obj.mapSeq fun _=> #[])).push (seqObj "tuple" vs.toArray 0)).push (seqObj "list" #[] 0) }) k1 (by omega) (fun v hv=> ?_) rfl ?_)
 ·obtain ⟨m,t,rfl⟩:=k3 v hv
  exact W.Looks.of_pure rfl
 ·refine wpAny_bind (wpAny_mono (W.kat_run (s:={ s with heap:=((s.heap.update a (Obj.mapSeq fun _=> #[])).push (seqObj "tuple" vs.toArray 0)).push (seqObj "list" #[] 0) }) (Q:=fun Y s'=>arrOf Y=p.map (W.kas_item (vs.toArray.zip vs.toArray))∧failedOf Y=none∧s'={ s with heap:=((s.heap.update a (Obj.mapSeq fun _=> #[])).push (seqObj "tuple" vs.toArray 0)).push (seqObj "list" #[] 0) })
   (G:=fun p' s'=>p'=p∧s'={ s with heap:=((s.heap.update a (Obj.mapSeq fun _=> #[])).push (seqObj "tuple" vs.toArray 0)).push (seqObj "list" #[] 0) }) rfl h2 h64 (fun p' Y s' a1 a2 a3 a4=>⟨by rw [a2,a4.1],a3,a4.2⟩) (ra (fun i j Q hi hj hQ=> ?_) _ p _ hr ⟨rfl,rfl⟩)) ?_ fun _ _ e=>e)
  ·refine nZ (hT2.2 i vs[i] (ij hi)) fun b ib e1' p1 n1 _=> ?_
   refine nZ (hT2.2 j vs[j] (ij hj)) fun c ic e2' p2 n2 _=> ?_
   unfold W.kas_ask
   have g1:vs.getD i Value.none= .ref b:=by simp [hi,e1']
   have g2:vs.getD j Value.none= .ref c:=by simp [hj,e2']
   rw [g1,g2]
   exact AH p1 p2 n1 n2 hQ
  ·rintro ⟨⟨⟩,Y⟩ s' ⟨har,hf,rfl⟩
   dsimp only
   refine wpAny_bind (seqEpoch_at ho6 rfl ?_)
   have hout:=W.kat_snds (vs:=vs) rfl har
   rw [hout]
   refine wpAny_bind (listUpdate_at ho6 rfl ?_ (Nat.zero_le _) (by rw [List.size_toArray,List.length_map,Array.length_toList,hp,sizeLine_eq]; omega))
   rw [hf]
   simp only [bne_self_eq_false,Bool.false_eq_true,if_false]
   exact wpAny_pure h
theorem oV {l:Addr}{vs:List Value}{out:Array Value}{Q:Value→Shared→Prop}(hl:s.heap.IsList l vs.toArray)(hn:vs.length < 64)
  (hsort:∀ (s':Shared) (P:Fin→Shared→Prop) (E':Value→Shared→Prop) (A':Around) (a:Addr),(∀ b o,s.heap.get? b=some o→s'.heap.get? b=some o)→s'.heap.get? a=some (seqObj "list" vs.toArray 0)→P (.done (.ret .none)) { s' with heap:=sortedHeap s'.heap a vs out }→wpAny (model prog w) A' (Builtin.«list.sort» ⟨[.ref a],[]⟩) P E' s')
  (h:Q (.ref (s.heap.objs.size+1)) { s with heap:=sortedAll s.heap vs out }):wpAny (model prog w) A (call (.builtin "sorted") [.ref l]) Q E s:=by
 refine Calls.call_function_entry kind_sorted plain_sorted entry_sorted (args_sorted1 _) ?_
 unfold Builtin.«sorted»
 refine wpAny_bind (m:=checkCount "sorted" 1 1 _) (wpAny_pure ?_)
 refine wpAny_bind (collect_list hl ?_ (by rw [sizeLine_eq]; omega))
 refine wpAny_bind (wpAny_newList ?_ (by rw [sizeLine_eq]; omega))
 have hsz:((s.heap.push (seqObj "list" #[] 0)).update s.heap.objs.size (Obj.mapSeq (· ++ vs.toArray))).objs.size=s.heap.objs.size+1:=by
  rw [Heap.size_update,size_push']
 have hoL:(((s.heap.push (seqObj "list" #[] 0)).update s.heap.objs.size (Obj.mapSeq (· ++ vs.toArray))).push (seqObj "list" vs.toArray 0)).get? (s.heap.objs.size+1)=some (seqObj "list" vs.toArray 0):=by
  rw [← hsz]; exact Heap.get?_push_size _ rfl
 show wpAny _ _ _ _ _ { s with heap:=((s.heap.push (seqObj "list" #[] 0)).update s.heap.objs.size (Obj.mapSeq (· ++ vs.toArray))).push (seqObj "list" vs.toArray 0) }
 rw [hsz]
 refine wpAny_bind (wpAny_holding (wpAny_call_entry slot_list_sort ⟨_,hoL,rfl⟩ entry_list_sort (hsort { s with heap:=((s.heap.push (seqObj "list" #[] 0)).update s.heap.objs.size (Obj.mapSeq (· ++ vs.toArray))).push (seqObj "list" vs.toArray 0) } _ _ _ _ (fun b o e=> ?_) hoL ⟨_,rfl,?_⟩) (args_list_sort _)))
 ·have hlt:b < s.heap.objs.size:=Heap.lt_size e
  exact Heap.get?_push_of_some _ ((Heap.get?_update_other _ _ (Nat.ne_of_gt hlt)).trans (Heap.get?_push_of_some _ e))
 ·exact wpAny_pure ⟨_,rfl,h⟩
end
noncomputable def fk:List D→Res D
 | [.lst l]=>if l.length < 2 then .ok (.lst l) else (match fA l with
  | some ts=>if (ts.all (fun t=> !t.isEmpty) && decide (ts.length < 64))=true then (match no ts.length (fun i j=>HT.a_ (ts.getD i []) (ts.getD j [])) (W.kas_sort ts.length) with
   | some p=>if p.size=ts.length∧(p.toList.all fun i=>decide (i < ts.length))=true then .ok (.lst (p.toList.map fun i=> .tup ((ts.getD i []).map D.int))) else .bad
   | none=> .bad) else .bad
  | none=> .bad)
 | _=> .bad
section
variable{X:Cx}{E:XK}
theorem jD {pins:List (Addr×Obj)}{σ:St}{H:Hp}{s:Shared}{vs:List Value}{out:List Value}{ys:List V}{Q:VK}(I:Inv X pins σ H s)(rv:Vals ys out)(hz:ys.length≤sizeLine)(q:∀ p,H p=none→Q (.ref p) (bg H p (.lst ys))):EP X pins σ Q (.ref (s.heap.objs.size+1)) { s with heap:=sortedAll s.heap vs out.toArray }:=by
 obtain ⟨e,he⟩:=sortedAll_at s.heap vs out.toArray
 have hn:=I.hok.fresh (Nat.le_succ s.heap.objs.size)
 refine ⟨.ref (s.heap.objs.size+1),_,I.laid (o:= .lst ys) (t':=s.toks) (fun b o q=>sortedAll_old q) (Nat.le_succ _) (mL hz out e rv he),rfl,q _ hn⟩
theorem sw:eD X (.builtin "sorted") (fun xs H Q=>∃ p vs,xs=[.ref p]∧gs X.K H p vs∧((vs.length < 2∧∀ l,H l=none→Q (.ref l) (bg H l (.lst vs)))∨
  ∃ ts pr,sm X.K H vs ts∧(∀ t∈ts,t≠[])∧2≤ts.length∧ts.length < 64∧no ts.length (fun i j=>HT.a_ (ts.getD i []) (ts.getD j [])) (W.kas_sort ts.length)=some pr∧pr.size=ts.length∧(∀ i∈pr.toList,i < ts.length)∧∀ l,H l=none→Q (.ref l) (bg H l (.lst (pr.toList.map fun i=>vs.getD i .non))))):=by
 intro pins s σ H xs us Q I r h
 refine cps fun PP kP=> ?_
 obtain ⟨p,vs,rfl,sq,h⟩:=h
 obtain ⟨u,rfl,ru⟩:=kz r
 refine kP ?_; clear kP PP
 cases (show u= .ref p from ru)
 obtain ⟨E,rv,pl,hz⟩:=I.list sq
 have hil:=rv.length
 rcases h with ⟨hlt,q⟩ | ⟨ts,pr,⟨hlen,htup⟩,hne,h2,h64,hr,hps,hin,q⟩
 ·exact oV pl.isList (by omega) (fun s' P E' A' a _ ho h=>nN ho (by omega) h) (jD I rv hz q)
 ·have hit:E.length=ts.length:=by omega
  have T:TupsIn s.heap E ts:=⟨hit,fun i u hu=>by
   have hi:i < E.length:=(fG hu).1
   have hi':i < ts.length:=by omega
   have Z:i < vs.length:=by omega
   obtain ⟨u',U,V⟩:=rv.get (ij Z)
   rw [hu] at U
   cases U
   obtain ⟨a,ea,sqa⟩:=htup i vs[i] ts[i] (ij Z) (ij hi')
   rw [ea] at V
   cases V
   obtain ⟨its2,r2,p2,_⟩:=I.tuple sqa
   have:ts.getD i []=ts[i]:=by rw [List.getD_eq_getElem?_getD,ij hi']; rfl
   rw [this]
   exact ⟨a,its2.toArray,rfl,p2,gQ r2,hne _ (List.getElem_mem hi')⟩⟩
  have rv2:Vals (pr.toList.map fun i=>vs.getD i .non) (pr.toList.map fun i=>E.getD i Value.none):=by
   have go:∀ (l:List Nat),(∀ i∈l,i < ts.length)→Vals (l.map fun i=>vs.getD i .non) (l.map fun i=>E.getD i Value.none):=by
    intro l
    induction l with
    | nil=>intro _; exact .nil
    | cons i l ih=>
     intro hl
     have hi:=hl i (List.mem_cons_self ..)
     have Z:i < vs.length:=by omega
     obtain ⟨u',U,V⟩:=rv.get (ij Z)
     refine .cons ?_ (ih fun j hj=>hl j (cI hj))
     have e1:vs.getD i .non=vs[i]:=by rw [List.getD_eq_getElem?_getD,ij Z]; rfl
     have e2:E.getD i Value.none=u':=by rw [List.getD_eq_getElem?_getD,U]; rfl
     show RelV (vs.getD i .non) (E.getD i Value.none)
     rw [e1,e2]
     exact V
   exact go _ hin
  refine oV pl.isList (by omega) (fun s' P E' A' a k ho h=>mX (p:=pr) (ts:=ts) ho (T.keep fun b o e _=>k b o e) (by omega) (by omega) (by rw [hit]; exact hr) h (by omega)) (jD I rv2 (by rw [List.length_map,Array.length_toList,hps]; have:=sizeLine_eq; omega) q)
theorem rF {e:Expr}{p pos:Pos}{f:DS→Res D}(hm:X.mg "sorted" =none)(h:PD X E e f)(hg:Gl X "sorted" :=by rfl)(he:starEach [e] X.env=(false,eval e X.env) :: starEach [] X.env:=by rfl):PN X E 1 (.Call (.Name "sorted" p) [e] [] pos) (fun ρ=>(f ρ).bind fun a=>fk [a]):=by
 have hpd:lI X E [e] (fun ρ=>(f ρ).bind fun d=> .ok [d]):=aa h ae he
 refine .tn (rB (x:= "sorted") (p:=p) (pos:=pos) sw hg hm boot_sorted (iO hpd) (by decide) (by decide) he rfl) fun σ G H ρ Q hs hro ho k=>⟨G,ρ,hs,hro,?_,fun ds e1 vs G1 H1 x1 p1=> ?_⟩
 ·have ho:=ho.fst
  show OkR E H ((f ρ).bind fun d=> .ok [d])
  cases q:f ρ with
  | ok d=>trivial
  | exc c=>rw [q] at ho; exact ho
  | bad=>rw [q] at ho; exact ho
 ·have ed:∃ d,f ρ= .ok d∧ds=[d]:=by
   have e1:((f ρ).bind fun d=>(.ok [d]:Res (List D)))= .ok ds:=e1
   cases q:f ρ with
   | ok d=>rw [q] at e1; cases e1; exact ⟨d,rfl,rfl⟩
   | exc c=>rw [q] at e1; cases e1
   | bad=>rw [q] at e1; cases e1
  refine cps fun PP kP=> ?_
  obtain ⟨d,ed,rfl⟩:=ed
  have L:=ho.snd ed x1.hh
  have e0:((f ρ).bind fun a=>fk [a])=fk [d]:=by rw [ed]; rfl
  obtain ⟨v,r,rfl,rx,r0⟩:=p1.inv
  refine kP ?_; clear kP PP
  rw [r0.inv0]
  unfold fk at L
  split at L
  ·rename_i l hd
   cases hd
   rw [rep_lst] at rx
   obtain ⟨q,xs,rfl,sq,rx⟩:=rx
   refine ⟨q,xs,rfl,x1.gh.seq sq.sq,?_⟩
   by_cases hl:l.length < 2
   ·refine .inl ⟨by rw [← rx.length]; exact hl,fun m hm=> ?_⟩
    obtain ⟨x,o,w⟩:=jG x1 hm rx
    exact k _ (e0.trans (if_pos hl)) _ _ _ _ x o w
   ·rw [if_neg hl] at L
    split at L
    ·rename_i ts qt
     have el:=jp qt
     split at L
     ·rename_i hc
      split at L
      ·rename_i pr hrun
       split at L
       ·rename_i hp
        rw [Bool.and_eq_true] at hc
        have hlen:l.length=ts.length:=by rw [el,List.length_map]
        have hin:∀ i∈pr.toList,i < ts.length:=fun i hi=>of_decide_eq_true (List.all_eq_true.mp hp.2 i hi)
        refine .inr ⟨ts,pr,oX x1.gh (by rw [← el]; exact rx),fun t ht=> ?_,by omega,of_decide_eq_true hc.2,hrun,hp.1,hin,fun m hm=> ?_⟩
        ·have:=List.all_eq_true.mp hc.1 t ht
         intro z; rw [z] at this; cases this
        ·have rl:RepL X.K G1 (pr.toList.map fun i=> .tup ((ts.getD i []).map D.int)) (pr.toList.map fun i=>xs.getD i .non):=by
          have go:∀ (m:List Nat),(∀ i∈m,i < ts.length)→RepL X.K G1 (m.map fun i=> .tup ((ts.getD i []).map D.int)) (m.map fun i=>xs.getD i .non):=by
           intro m
           induction m with
           | nil=>intro _; exact .nil
           | cons i m ih=>
            intro hm
            have hi:=hm i (List.mem_cons_self ..)
            obtain ⟨v,hv,rv⟩:=rx.get (i:=i) (d:= .tup ((ts.getD i []).map D.int)) (by
             rw [el,List.getElem?_map,ij hi,List.getD_eq_getElem?_getD,ij hi]; rfl)
            refine .cons ?_ (ih fun j hj=>hm j (cI hj))
            have e2:xs.getD i .non=v:=by rw [List.getD_eq_getElem?_getD,hv]; rfl
            show Rep X.K G1 _ (xs.getD i .non)
            rw [e2]
            exact rv
          exact go _ hin
         obtain ⟨x,o,w⟩:=jG x1 hm rl
         refine k _ (e0.trans ?_) _ _ _ _ x o w
         show (if l.length < 2 then _ else _)=_
         rw [if_neg hl,qt]
         dsimp only
         rw [if_pos (by rw [Bool.and_eq_true]; exact hc),hrun]
         exact if_pos hp
       ·exact L.elim
      ·exact L.elim
     ·exact L.elim
    ·exact L.elim
  ·exact L.elim
end
section
variable{X:Cx}{E:XK}{μ:List Nat}{r n:Nat}
noncomputable def He (K:W.Frag)(te tk:TE):TE:=fun σ H Q=>te σ H fun x H1=>tk σ H1 fun k H2=>k= .int (-1)∧∃ a xs,x= .ref a∧gs K H2 a xs∧∀ p,H2 p=none→Q (.ref p) (bg H2 p (.lst xs.reverse))
theorem C_ {e st:Expr}{te tk:TE}{p2 pos:Pos}(he:PE X e te)(hk:PE X st tk):PE X (.Subscript e (.Slice none none (some st) p2) pos) (He X.K te tk):=by
 intro z s σ H Q I h
 refine Subscript_ (aW (he z s σ H _ I h) fun v s1 hZ144=> ?_)
 obtain ⟨x,H1,I1,r1,q1⟩:=hZ144
 refine wpAny_Slice ?_
 rw [evalPart_none,evalPart_some]
 refine wpAny_pure (wpAny_pure (aW (hk z s1 σ H1 _ I1 q1) fun vk s3 hZ145=> ?_))
 obtain ⟨k,H3,I3,rk,ek,a,xs,ea,sq,q3⟩:=hZ145
 subst ek ea
 cases r1
 obtain ⟨t,rfl⟩:=rk
 have I4:Inv X z σ H3 { s3 with heap:=s3.heap.push { cls:= .type "slice",data:= .fields #[.none,.none,.int (-1) t] } }:=I3.kept (t':=s3.toks) fun b ob q=>Heap.get?_push_of_some _ q
 refine cw (I4.list sq) fun its rv pl hz=> ?_
 show wpAny (model X.prog X.w) X.A (subscriptTail e (.Slice none none (some st) p2) (.ref a) (.ref s3.heap.objs.size)) (EP X z σ Q) X.xe { s3 with heap:=s3.heap.push { cls:= .type "slice",data:= .fields #[.none,.none,.int (-1) t] } }
 refine tail_any (ops:=[.ref a,.ref s3.heap.objs.size]) pl.isList.typeIs slot_list_getitem.lookup ?_ (by with_unfolding_all rfl)
 refine wpAny_getItem_list_slice (vs:= .int (-1) t) (st:=some (-1)) pl.isList (Heap.IsSliceOf.new ..) .none .none (.int _ _) (by decide) ?_ (by rw [List.size_toArray]; have:=rv.length; omega)
 rw [W.krv_pick]
 have hn:=I4.hok.fresh (Nat.le_refl _)
 have rr:Vals xs.reverse its.reverse:=by
  have go:∀ {xs:List V} {us:List Value},Vals xs us→Vals xs.reverse us.reverse:=by
   intro xs
   induction xs with
   | nil=>intro us h; cases h; exact .nil
   | cons x xs ih=>
    intro us h
    cases h with
    | cons r rr=>
     rw [List.reverse_cons,List.reverse_cons]
     exact (ih rr).append (.cons r .nil)
  exact go rv
 refine ⟨.ref _,_,I4.laid (t':=s3.toks) (o:= .lst xs.reverse) (fun b ob q=>Heap.get?_push_of_some _ q) (Nat.le_refl _) ?_,rfl,q3 _ hn⟩
 exact (mL (by rw [List.length_reverse]; exact hz) its.reverse 0 rr (Heap.get?_push_size _ rfl))
noncomputable def k9:D→D→Res D
 | .lst l,.int k=>if k= -1 then .ok (.lst l.reverse) else .bad
 | _,_=> .bad
theorem tz {e st:Expr}{f g:DS→Res D}{p2 pos:Pos}(he:PD X E e f)(hk:PD X E st g):PN X E 1 (.Subscript e (.Slice none none (some st) p2) pos) (ac f g k9):=by
 refine .tn (C_ (pos:=pos) (p2:=p2) (dR he) (dR hk)) fun σ G H ρ Q hs hro ho k=>⟨G,ρ,hs,hro,ho.fst,fun d e1 v G1 H1 x1 p1=>⟨G1,ρ,x1.gh,hro.mono x1.gg,(ho.snd e1 x1.hh).fst,fun d2 e2 v2 G2 H2 x2 p2=> ?_⟩⟩
 have kk:=(ho.snd e1 x1.hh).snd e2 x2.hh
 have e0:ac f g k9 ρ=k9 d d2:=by unfold ac; rw [e1,ar,e2,ar]
 unfold k9 at kk
 split at kk
 ·rename_i l kv
  split at kk
  ·rename_i hk1
   subst hk1
   rw [rep_lst] at p1
   rw [rep_int] at p2
   refine bp (p1) fun a xs hS140 sq rl=> ?_; subst hS140
   refine (zF p2 a xs rfl (x2.hh.seq (x1.gh.seq sq.sq)) (fun p hp=> ?_))
   obtain ⟨x,o,w⟩:=jG (x1.trans x2) hp (rl.mono x2.gg).reverse
   exact k _ (by rw [e0]; unfold k9; exact if_pos rfl) _ _ _ _ x o w
  ·exact kk.elim
 ·exact kk.elim
noncomputable def yC:D→Res Bool
 | .lst l=> .ok (!l.isEmpty)
 | .bl b=> .ok b
 | _=> .bad
theorem lU {e:Expr}{f:DS→Res D}(h:PD X E e f)(he:∀ whole,isTrue e X.env whole=(do let v ← whole; standAt e.pos; holding [v] (truthy v)):=by intro _; rfl):va X E e (fun ρ=>(f ρ).bind yC):=by
 intro pins s σ G H ρ I hs hro ho
 refine isTrue_plain (aW (h pins s σ G H ρ I hs hro ho.fst) fun v s1 hZ146=> ?_) (he _)
 obtain ⟨d,e,v3,G3,H3,I3,r3,x3,p3⟩:=hZ146
 have k:=ho.snd e (Same.refl H)
 cases d with
 | bl b=>
  rw [rep_bl] at p3; subst p3; cases r3
  exact wpAny_truthy_bool ⟨aq e rfl,G3,H3,I3,x3⟩
 | lst l=>
  rw [rep_lst] at p3
  refine bp (p3) fun a xs hS141 sq rl=> ?_; subst hS141
  cases r3
  refine cw (I3.list (x3.gh.seq sq.sq)) fun its rv pl hz=> ?_
  refine wpAny_truthy_list pl.isList (by rw [List.size_toArray,← rv.length]; have:=sizeLine_eq; omega) ⟨aq e ?_,G3,H3,I3.tok _,x3⟩
  show Res.ok (!l.isEmpty)= .ok _
  have h1:=rl.length
  have h2:=rv.length
  cases l with
  | nil=>
   cases its with
   | nil=>rfl
   | cons _ _=>simp at h1; rw [← h1] at h2; simp at h2
  | cons _ _=>
   cases its with
   | nil=>rw [← h1] at h2; simp at h2
   | cons _ _=>rfl
 | _=>exact k.elim
theorem cD {st:Stmt}:lJ X E μ r st (fun _=> .bad):=fun _ _ _ _ _ _ _ _ _ _ _ ho=>ho.elim
end
noncomputable def iz (n:Nat)(N:List Str)(F:DS→Out):List D→Res D:=fun ds=>if ds.length=n then fv (F (aH N ds)) else .bad
section
variable{P:Program}{w:World}{K:W.Frag}{mg:Str→Option Value}{base:Heap}
structure Cal (P:Program)(w:World)(K:W.Frag)(mg:Str→Option Value)(base:Heap)(x:Str)(k:Nat)(ps:List Str)(sp:Sp):Prop where
 ex:∃ f fd,FnOk P w K mg base (CXF P w) k f fd ps sp∧Binds K fd ps []∧mg x=some (.ref f)∧W.keepIn K (.ref f)=true
structure Sta (K:W.Frag)(mg:Str→Option Value)(x:Str)(st:Stmt)(ps:List Str):Prop where
 ex:∃ f fd,Fun K x x st f fd∧Binds K fd ps []∧mg x=some (.ref f)∧W.keepIn K (.ref f)=true
theorem Sta.cal {x:Str}{st:Stmt}{N ps:List Str}{k r n:Nat}{F:DS→Out}(S:Sta K mg x st ps)(sc:FnScope N ps (ag st))(μ:List Nat)(hμ:∀ i,i < ps.length→μ.getD i 0=0)(hn:ps.length=n)
  (hbody:∀ (f:Addr) (cdv:Value) (A:Around) (outer:List Env) (s:Shared) (H:Hp) (E:XK),Room k (A.deeper (envOfC x (ag st) s.heap.objs.size f cdv))→
   t8 (wz P w K mg base N x (ag st) f cdv A outer s H E) E μ r (cG st) F):Cal P w K mg base x (k+1) ps (freshSp K r (iz n N F)):=by
 refine nZ (S.ex) fun f fd hf hb hm hk=> ?_
 refine ⟨f,fd,hf.fresh sc μ hμ (fun ds h=> ?_) (fun cdv A outer s H E hr=>⟨F,hbody f cdv A outer s H E hr,fun ds h=> ?_⟩),hb,hm,hk⟩
 ·unfold iz at h
  split at h
  ·rename_i e; rw [e,hn]
  ·exact absurd rfl h
 ·unfold iz at h ⊢
  split at h
  ·rename_i e; rw [if_pos e]
  ·exact absurd rfl h
end
section
variable{X:Cx}{E:XK}{n:Nat}
theorem lA {k j:Nat}{ps:List Str}{m:List D→Res D}{x:Str}{p pos:Pos}{e:Expr}{es:List Expr}{fs:DS→Res (List D)}(C:Cal X.prog X.w X.K X.mg X.base x k ps (freshSp X.K n m))(hr:Room j X.A)
  (ha:lI X E (e :: es) fs) (hx:cL (CXF X.prog X.w) X E:=by exact iD fun _ _ _ h=>h) (hkj:k≤j:=by decide) (hg:Gl X x:=by rfl) (hdb:(x == ("__debug__" :Str))=false:=by decide) (he:starEach (e :: es) X.env=(false,eval e X.env) :: starEach es X.env:=by rfl) (hpl:(backTo pos (starEach es X.env)).any (·.1)=false:=by rfl) :
  PN X E n (.Call (.Name x p) (e :: es) [] pos) (bx fs m):=by
 refine nZ (C.ex) fun f fd F hb hm hk=> ?_
 exact Al F (hr.mono hkj) hg hm hk hb hx ha hdb he hpl
theorem aJ {k j:Nat}{ps:List Str}{m:List D→Res D}{x:Str}{p pos:Pos}{e:Expr}{es:List Expr}{fs:DS→Res (List D)}(C:Cal X.prog X.w X.K X.mg X.base x k ps (freshSp X.K n m))(hr:Room j X.A)
  (ha:lI X E (e :: es) fs) (hx:cL (CXF X.prog X.w) X E:=by exact iD fun _ _ _ h=>h) (hkj:k≤j:=by decide) (hg:Gl X x:=by rfl) (hdb:(x == ("__debug__" :Str))=false:=by decide) (he:starEach (e :: es) X.env=(false,eval e X.env) :: starEach es X.env:=by rfl) (hpl:(backTo pos (starEach es X.env)).any (·.1)=false:=by rfl) :
  PD X E (.Call (.Name x p) (e :: es) [] pos) (bx fs m):=(lA C hr ha hx hkj hg hdb he hpl).pd
end
noncomputable def eN (so:Scope)(No:List Str)(scope:Scope):List Str→List (Option Nat)→Bool
 | x :: N,some k :: caps=>decide (scope.names.lookup x=some .free) && decide (No[k]?=some x) && (decide (so.names.lookup x=some .cell) || decide (so.names.lookup x=some .free)) && eN so No scope N caps
 | _ :: N,none :: caps=>eN so No scope N caps
 | [],[]=>true
 | _,_=>false
theorem ju {so:Scope}{No:List Str}{scope:Scope}:∀ {N:List Str} {caps:List (Option Nat)},eN so No scope N caps=true→caps.length=N.length
 | [],[],_=>rfl
 | [],_ :: _,h=>by unfold eN at h; cases h
 | _ :: _,[],h=>by unfold eN at h; cases h
 | x :: N,none :: caps,h=>by unfold eN at h; rw [List.length_cons,List.length_cons,ju h]
 | x :: N,some k :: caps,h=>by unfold eN at h; rw [Bool.and_eq_true] at h; rw [List.length_cons,List.length_cons,ju h.2]
theorem i3 {so:Scope}{No:List Str}{scope:Scope}:∀ {N:List Str} {caps:List (Option Nat)} {j k:Nat} {x:Str},eN so No scope N caps=true→caps[j]?=some (some k)→N[j]?=some x→scope.names.lookup x=some .free∧No[k]?=some x∧(so.names.lookup x=some .cell∨so.names.lookup x=some .free)
 | [],[],j,k,x,_,h1,h2=>by simp at h1
 | [],_ :: _,j,k,x,h,h1,h2=>by simp at h2
 | _ :: _,[],j,k,x,h,h1,h2=>by simp at h1
 | y :: N,none :: caps,j,k,x,h,h1,h2=>by
  unfold eN at h
  cases j with
  | zero=>simp at h1
  | succ j=>exact i3 h (by simpa using h1) (by simpa using h2)
 | y :: N,some k0 :: caps,j,k,x,h,h1,h2=>by
  unfold eN at h
  rw [Bool.and_eq_true,Bool.and_eq_true,Bool.and_eq_true,Bool.or_eq_true] at h
  obtain ⟨⟨⟨a,b⟩,c⟩,d⟩:=h
  cases j with
  | zero=>
   simp at h1 h2
   subst h1 h2
   exact ⟨of_decide_eq_true a,of_decide_eq_true b,c.imp of_decide_eq_true of_decide_eq_true⟩
  | succ j=>exact i3 d (by simpa using h1) (by simpa using h2)
noncomputable def pA (so:Scope)(No:List Str)(scope:Scope)(N:List Str)(caps:List (Option Nat)):Bool:=
 decide (scope.kind= .function) && scope.names.all (fun y=>decide (scope.names.lookup y.1=some y.2)) && 
  scope.names.all (fun y=>decide (y.2≠ .free) || (decide (so.names.lookup y.1=some .cell) || decide (so.names.lookup y.1=some .free))) && decide N.Nodup && eN so No scope N caps
theorem aI {X:Cx}{scope:Scope}{N:List Str}{caps:List (Option Nat)}(so:Scope)(No:List Str)(hso:X.env.scope=so)(hNo:X.N=No)(chk:pA so No scope N caps=true):CompSc X scope N caps:=by
 unfold pA at chk
 simp only [Bool.and_eq_true] at chk
 obtain ⟨⟨⟨⟨a,b⟩,d⟩,e⟩,f⟩:=chk
 have b2:∀ (y:Str×NameKind) {k:NameKind},y∈scope.names→y.2=k→scope.names.lookup y.1=some k:=fun y k c G=>by rw [← G]; exact of_decide_eq_true (List.all_eq_true.mp b y c)
 refine ⟨of_decide_eq_true a,fun y c G=>b2 y c G,fun y c G=>b2 y c G,fun y c G=>b2 y c G,fun y c G=> ?_,of_decide_eq_true e,ju f,fun j k x h1 h2=>(i3 f h1 h2).1,fun j k x h1 h2=> ?_⟩
 ·have:=List.all_eq_true.mp d y c
  rw [Bool.or_eq_true,Bool.or_eq_true] at this
  rw [hso]
  rcases this with z | z | z
  ·exact absurd G (of_decide_eq_true z)
  ·exact .inl (of_decide_eq_true z)
  ·exact .inr (of_decide_eq_true z)
 ·obtain ⟨_,h3,h4⟩:=i3 f h1 h2
  rw [hso,hNo]
  exact ⟨h3,h4⟩
noncomputable abbrev pN:DS→Res (List D):=fun _=> .ok []
noncomputable abbrev pC (f:DS→Res D)(g:DS→Res (List D)):DS→Res (List D):=fun ρ=>(f ρ).bind fun d=>(g ρ).bind fun ds=> .ok (d :: ds)
noncomputable abbrev kI (i:Int):DS→Res D:=fun _=> .ok (.int i)
noncomputable abbrev kB (b:Bool):DS→Res D:=fun _=> .ok (.bl b)
noncomputable abbrev kS (x:Str):DS→Res D:=fun _=> .ok (.str x)
noncomputable abbrev c1 (f:DS→Res D)(m:List D→Res D):DS→Res D:=fun ρ=>(f ρ).bind fun a=>m [a]
theorem jR {X:Cx}{s:Shared}{H:Hp}{so:Scope}{C:Addr}{No:List Str}{ex:List Addr}{scope:Scope}{N:List Str}{caps:List (Option Nat)}(chk:pA so No scope N caps=true):CompSc (X.comp s H so C No ex) scope N caps:=by
 have S:CompSc { X with env:={ X.env with scope:=so },N:=No } scope N caps:=aI so No rfl rfl chk
 have up:∀ {x:Str},so.names.lookup x=some .cell∨so.names.lookup x=some .free→(relabel so X.env).names.lookup x=some .cell∨(relabel so X.env).names.lookup x=some .free:=fun h=>h.elim (fun z=> .inl (g_ z)) fun z=>hG z
 exact ⟨S.kind,S.freek,S.cellk,S.names,fun y hy hk=>up (S.free y hy hk),S.nd,S.len,S.capf,fun j k x h1 h2=>⟨(S.cap j k x h1 h2).1,up (S.cap j k x h1 h2).2⟩⟩
section
variable{X:Cx}{E:XK}{μ:List Nat}{r n:Nat}
theorem Dh {st:Stmt}{i:Nat}{x:Str}{f:DS→Res D}(h:∃ te,PS X st (rV te (bY i))∧TN X.K E n f te)(hi:X.N[i]?=some x)(hm:μ.getD i 0=0):lJ X E μ r st (aP i (da μ f)):=
 let ⟨_,h1,h2⟩:=h; uP hi h1 h2.freeze hm
theorem Di {st:Stmt}{i:Nat}{x:Str}{f:DS→Res D}(h:∃ te,PS X st (rV te (bY i))∧TN X.K E n f te)(hi:X.N[i]?=some x)(hm:μ.getD i 0=n):lJ X E μ r st (aP i (da μ f)):=
 let ⟨_,h1,h2⟩:=h; uP hi h1 h2 hm
theorem kg {st:Stmt}{i:Nat}{x:Str}{f:DS→Res D}(h:∃ te,PS X st (rV te (bY i))∧TN X.K E n f te)(hi:X.N[i]?=some x):lJ X E [] r st (aP i f):=by
 have:=Dh (μ:=[]) (r:=r) h hi rfl
 unfold da at this
 simp only [jZ] at this
 exact this
noncomputable abbrev sL (f:DS→Res D):DS→Res (List D):=fun ρ=>(f ρ).bind AE
noncomputable abbrev sT (f:DS→Res D):DS→Res (List D):=fun ρ=>(f ρ).bind Du
noncomputable abbrev sR1 (fs:DS→Res (List D)):DS→Res (List D):=fun ρ=>(fs ρ).bind tF
noncomputable abbrev sR2 (fs:DS→Res (List D)):DS→Res (List D):=fun ρ=>(fs ρ).bind yi
noncomputable abbrev sE (fs:DS→Res (List D)):DS→Res (List D):=fun ρ=>(fs ρ).bind qN
noncomputable abbrev sZ (fs:DS→Res (List D)):DS→Res (List D):=fun ρ=>(fs ρ).bind sd
noncomputable abbrev oI (f:DS→Res D):DS→Res (Option Int):=fun ρ=>(f ρ).bind Gs
noncomputable abbrev oN:DS→Res (Option Int):=fun _=> .ok none
noncomputable abbrev tR (f:DS→Res D):DS→Res Bool:=fun ρ=>(f ρ).bind yC
noncomputable abbrev nG (f:DS→Res D):DS→Res D:=fun ρ=>(f ρ).bind CI
noncomputable abbrev yes:DS→Res Bool:=fun _=> .ok true
noncomputable abbrev bad1:DS→Out:=fun _=> .bad
noncomputable abbrev nxt:DS→Out:=fun ρ=> .nx ρ
noncomputable abbrev Gd (f:DS→Res D):DS→Res (List D):=fun ρ=>(f ρ).bind fun d=> .ok [d]
end
structure CalM (P:Program)(w:World)(K:W.Frag)(mg:Str→Option Value)(base:Heap)(C:Addr)(m:Str)(k:Nat)(g:List D→Res D):Prop where
 cl:Cls K C
 ex:∃ f fd,Meth K C m f∧FnOk P w K mg base (CXF P w) k f fd ["self"] (pureSp K g)∧Binds K fd ["self"] []
structure CalI (P:Program)(w:World)(K:W.Frag)(mg:Str→Option Value)(base:Heap)(x:Str)(C:Addr)(k:Nat)(ps:List Str)(m:List D→Res D):Prop where
 of:By C m
 mgx:mg x=some (.ref C)
 ex:∃ f fd,Mk K C f∧FnOk P w K mg base (CXF P w) k f fd ps (pV K C m)∧Binds K fd ps []
section
variable{X:Cx}{E:XK}
theorem oQ {pl:Sem Bool}{k j:Nat}{C:Addr}{g:List D→Res D}{m:Str}{apos pos:Pos}{o:Expr}{fo:DS→Res D}(M:CalM X.prog X.w X.K X.mg X.base C m k g)(hr:Room j X.A)(hoo:PD X E o fo)
  (hx:cL (CXF X.prog X.w) X E:=by exact iD fun _ _ _ h=>h) (hkj:k≤j:=by decide)
  (ht:eval (.Call (.Attribute o m apos) [] [] pos) X.env=(do
   let ov ← eval o X.env
   standAt apos.atName
   let (f,first) ← holding [ov] (getMethod ov m pl)
   callWith pos f first (backTo pos (starEach [] X.env)) (backToKw pos (keywordEach [] X.env))):=by rfl):PD X E (.Call (.Attribute o m apos) [] [] pos) (iM C m fo g):=by
 refine bp (M.ex) fun f fd hm F hb=> ?_
 exact Fz hoo M.cl hm F (hr.mono hkj) hb hx ht
theorem FA {k j:Nat}{C:Addr}{ps:List Str}{m:List D→Res D}{x:Str}{p pos:Pos}{e:Expr}{es:List Expr}{fs:DS→Res (List D)}(M:CalI X.prog X.w X.K X.mg X.base x C k ps m)(hr:Room j X.A)(ha:lI X E (e :: es) fs)
  (hx:cL (CXF X.prog X.w) X E:=by exact iD fun _ _ _ h=>h) (hkj:k+1≤j:=by decide) (hg:Gl X x:=by rfl) (hdb:(x == ("__debug__" :Str))=false:=by decide)
  (he:starEach (e :: es) X.env=(false,eval e X.env) :: starEach es X.env:=by rfl) (hpl:(backTo pos (starEach es X.env)).any (·.1)=false:=by rfl):PD X E (.Call (.Name x p) (e :: es) [] pos) (bx fs m):=by
 refine bp (M.ex) fun f fd mk F hb=> ?_
 exact zZ mk F M.of (hr.mono hkj) hg M.mgx hb hx ha fun t ht=>Ac mk F (hr.mono hkj) hg M.mgx hb .nil hx ht hdb he hpl
end
theorem u6 {i:Nat}{ρ:DS}{c:Addr}:ab i ρ≠ .exc c:=by
 unfold ab
 split <;> intro h <;> cases h
theorem sM {a b:D}{c:Addr}:aM a b≠ .exc c:=by
 unfold aM
 repeat' split
 all_goals (intro h; cases h)
theorem Fu {μ:List Nat}{i:Nat}{k:Int}:∀ ρ c,da μ (ac (ab i) (kI k) aM) ρ≠ .exc c:=by
 intro ρ c h
 have h:((ab i (f_ μ ρ)).bind fun a=>aM a (.int k))= .exc c:=h
 cases q:ab i (f_ μ ρ) with
 | ok d=>rw [q] at h; exact sM h
 | exc e=>exact u6 q
 | bad=>rw [q] at h; cases h
section
variable{X:Cx}{E:XK}
end
noncomputable def uX (K:W.Frag):Sp:=fun vs H Q _=>∃ (ad:Addr) (sc:List Int),vs=[.ref ad]∧sc.length≤63∧gs K H ad (sc.map V.int)∧∀ H',Q (.bl true) H'
section
variable{P:Program}{w:World}{K:W.Frag}{mg:Str→Option Value}{base:Heap}{r:Nat}
theorem zV {k:Nat}{f:Addr}{fd:FuncData}{m:List D→Res D}(F:FnOk P w K mg base (CXF P w) k f fd ["script"] (freshSp K 0 m))(h:∀ ns:List Int,ns.length≤63→m [.scr ns]= .ok (.bl true)):FnOk P w K mg base (CXF P w) k f fd ["script"] (uX K):=
 F.imp fun vs H Q E hZ147=>by
  refine nZ (hZ147) fun ad sc e hl sq q=> ?_
  subst e
  refine ⟨[.scr sc],H,.refl _,.cons (by unfold Rep; exact ⟨ad,rfl,sq⟩) .nil,by rw [h sc hl]; trivial,fun d ed v G' H' S _ o _=> ?_⟩
  rw [h sc hl] at ed
  cases ed
  have o2:=o.2
  rw [rep_bl] at o2
  rw [o2]
  exact q H'
theorem Fun.freshM {x qual:Str}{st:Stmt}{f:Addr}{fd:FuncData}{N ps:List Str}{k n:Nat}{F:DS→Out}(Fn:Fun K x qual st f fd)(sc:FnScope N ps (ag st))(μ:List Nat)(hμ:∀ i,i < ps.length→μ.getD i 0=0)(hn:ps.length=n)
  (hbody:∀ (cdv:Value) (A:Around) (outer:List Env) (s:Shared) (H:Hp) (E:XK),Room k (A.deeper (envOfC qual (ag st) s.heap.objs.size f cdv))→
   t8 (wz P w K mg base N qual (ag st) f cdv A outer s H E) E μ r (cG st) F):FnOk P w K mg base (CXF P w) (k+1) f fd ps (freshSp K r (iz n N F)):=by
 refine Fn.fresh sc μ hμ (fun ds h=> ?_) (fun cdv A outer s H E hr=>⟨F,hbody cdv A outer s H E hr,fun ds h=> ?_⟩)
 ·unfold iz at h
  split at h
  ·rename_i e; rw [e,hn]
  ·exact absurd rfl h
 ·unfold iz at h ⊢
  split at h
  ·rename_i e; rw [if_pos e]
  ·exact absurd rfl h
end
theorem vn {P:Program}{w:World}{H:Hp}{s:Shared}{e:Value}{s':Shared}(h:CXF P w [] H s (fun _ _ _=>False) e s'):False:=by
 obtain ⟨_,_,_,_,_,_,_,_,_,_,_,_,_,_,q⟩:=h
 exact q
theorem xy (k:Nat){l:W.OpenLaw}{q:Program}{loose:List Str}{XP:(Str→Option Value)→Heap→Prop}{YP:World→Heap→Prop}{d:DefRec}{K:Params→W.Frag}(hr:Room k callerA)(hn:l.most=some 63)(hdf:d.params.defaults=[])
  (hY:∀ (w:World) (h:Heap),YP w h→(K w.params).In h)
  (F:∀ (w:World) (mg:Str→Option Value) (fa:Addr) (h:Heap),(K w.params).In h→h.Ns mainGlobals mg→mg d.name=some (.ref fa)→
   ∃ fd:FuncData,(∀ (s:Shared) (u:Value),BindsTo s fd ⟨[u],[]⟩ [("script",u)])∧∀ base:Heap,(K w.params).In base→base.Ns mainGlobals mg→FnOk l.prog w (K w.params) mg base (CXF l.prog w) k fa fd ["script"] (uX (K w.params))) :
  W.WalkO q loose XP YP l.row.toRowW d [] (fun f vs=>PySem.call f vs):=
 AQ (n:=63) (k:=k) (x:= "script") (CX:=fun w=>CXF l.prog w) (sp:=fun w=>uX (K w.params)) hn (by decide) hdf hr hY F (fun _ _ a ns hl _ hS=>(kR a ns rfl hl hS (fun _=>rfl))) fun _ _ _ _ _ z=>vn z
end L2
namespace L2
open PySem
section
variable{α:Type}{ρ ρ' ρ1:DS}{μ:List Nat}{n j k m:Nat}{f fi':DS→Res D}{fc:DS→Res Bool}{F R:DS→Out}{fi:DS→Res (List D)}{asg:D→DS→Option DS}{o:Option D}{d e:D}{ds l row:List D}
theorem DY:da μ f ρ=f (f_ μ ρ):=id rfl
theorem BX:xb μ fi ρ=fi (f_ μ ρ):=id rfl
theorem Eb:wx n f ρ=(f ρ).bind fun d=>if d_ n d=true then .ok d else .bad:=id rfl
theorem BU:f_ (0 :: μ) (o :: ρ)=o :: f_ μ ρ:=by unfold f_; rw [List.mapIdx_cons]; rfl
theorem BW:f_ ((n+1) :: μ) (o :: ρ)=none :: f_ μ ρ:=by unfold f_; rw [List.mapIdx_cons]; rfl
theorem BV:f_ μ []=[]:=id rfl
theorem zc:im fi asg F ρ=(fi ρ).out fun ds=>dJ asg F ds ρ:=id rfl
theorem wS:dJ asg F [] ρ= .nx ρ:=id rfl
theorem uo (h1:asg d ρ=some ρ1)(h2:F ρ1= .nx ρ'):dJ asg F (d :: ds) ρ=dJ asg F ds ρ':=by
 conv=>lhs; unfold dJ
 rw [h1]; dsimp only; rw [h2]
theorem mI (I:List D→DS→Prop)(step:∀ d ds ρ,I (d :: ds) ρ→∃ ρ1 ρ',asg d ρ=some ρ1∧F ρ1= .nx ρ'∧I ds ρ'):∀ ds ρ,I ds ρ→∃ ρ',dJ asg F ds ρ= .nx ρ'∧I [] ρ'
 | [],ρ,h=>⟨ρ,rfl,h⟩
 | d :: ds,ρ,h=>by
  refine bp (step d ds ρ h) fun ρ1 ρ' h1 h2 h3=> ?_
  obtain ⟨ρ2,h4,h5⟩:=mI I step ds ρ' h3
  exact ⟨ρ2,(uo h1 h2).trans h4,h5⟩
theorem qY {x:Res D}(I:List D→DS→Prop)(h:I ds ρ)(step:∀ d ds ρ,I (d :: ds) ρ→∃ ρ1 ρ',asg d ρ=some ρ1∧F ρ1= .nx ρ'∧I ds ρ')(fin:∀ ρ',I [] ρ'→fv (R ρ')=x):fv ((dJ asg F ds ρ).then R)=x:=by
 obtain ⟨ρ',e,h'⟩:=mI I step ds ρ h
 rw [e]; exact fin ρ' h'
theorem vA {P:D→Prop}(I:List D→DS→Prop)(h:I ds ρ)(step:∀ d ds ρ,I (d :: ds) ρ→∃ ρ1 ρ',asg d ρ=some ρ1∧F ρ1= .nx ρ'∧I ds ρ')(fin:∀ ρ',I [] ρ'→∃ x,fv (R ρ')= .ok x∧P x):∃ x,fv ((dJ asg F ds ρ).then R)= .ok x∧P x:=by
 obtain ⟨ρ',e,h'⟩:=mI I step ds ρ h
 rw [e]; exact fin ρ' h'
theorem kX {l:List (List Int)}:d_ 1 (.lst (l.map fun t=> .tup (t.map D.int)))=true:=by
 unfold d_
 rw [List.all_eq_true]
 intro d hd
 obtain ⟨t,_,rfl⟩:=List.mem_map.mp hd
 exact mH t
theorem qS {i:Int}:d_ 0 (.int i)=true:=by unfold d_ flat; rfl
theorem iH {st:List α→DS→Prop}{c:α→D}:∀ (xs pre:List α) (ρ:DS),st pre ρ→(∀ pre' x post,pre ++ xs=pre' ++ x :: post→∀ ρ,st pre' ρ→∃ ρ1,asg (c x) ρ=some ρ1∧∃ ρ',F ρ1= .nx ρ'∧st (pre' ++ [x]) ρ')→∃ ρ',dJ asg F (xs.map c) ρ= .nx ρ'∧st (pre ++ xs) ρ'
 | [],pre,ρ,h,_=>⟨ρ,rfl,by rw [List.append_nil]; exact h⟩
 | x :: xs,pre,ρ,h,step=>by
  refine Hx (step pre x xs rfl ρ h) fun ρ1 h1 ρ' h2 h3=> ?_
  obtain ⟨ρ2,h4,h5⟩:=iH xs (pre ++ [x]) ρ' h3 fun pre' y post e=>step pre' y post (by rw [← e,List.append_assoc]; rfl)
  refine ⟨ρ2,(uo h1 h2).trans h4,?_⟩
  rw [List.append_assoc] at h5
  exact h5
theorem ki {x:Res D}{xs:List α}{c:α→D}(st:List α→DS→Prop)(h:st [] ρ)(step:∀ pre y post,xs=pre ++ y :: post→∀ ρ,st pre ρ→∃ ρ1,asg (c y) ρ=some ρ1∧∃ ρ',F ρ1= .nx ρ'∧st (pre ++ [y]) ρ')(fin:∀ ρ',st xs ρ'→fv (R ρ')=x):fv ((dJ asg F (xs.map c) ρ).then R)=x:=by
 obtain ⟨ρ',e,h'⟩:=iH (asg:=asg) (F:=F) (c:=c) xs [] ρ h step
 rw [e]; exact fin ρ' h'
theorem wd {P:DS→Prop}{xs:List α}{c:α→D}(st:List α→DS→Prop)(h:st [] ρ)(step:∀ pre y post,xs=pre ++ y :: post→∀ ρ,st pre ρ→∃ ρ1,asg (c y) ρ=some ρ1∧∃ ρ',F ρ1= .nx ρ'∧st (pre ++ [y]) ρ')(fin:∀ ρ',st xs ρ'→∃ ρ'',R ρ'= .nx ρ''∧P ρ''):∃ ρ'',(dJ asg F (xs.map c) ρ).then R= .nx ρ''∧P ρ'':=by
 obtain ⟨ρ',e,h'⟩:=iH (asg:=asg) (F:=F) (c:=c) xs [] ρ h step
 rw [e]; exact fin ρ' h'
theorem lY {P:DS→Prop}{xs:List α}{c:α→D}(st:List α→DS→Prop)(h:st [] ρ)(step:∀ pre y post,xs=pre ++ y :: post→∀ ρ,st pre ρ→∃ ρ1,asg (c y) ρ=some ρ1∧∃ ρ',F ρ1= .nx ρ'∧st (pre ++ [y]) ρ')(fin:∀ ρ',st xs ρ'→P ρ'):∃ ρ'',dJ asg F (xs.map c) ρ= .nx ρ''∧P ρ'':=by
 obtain ⟨ρ',e,h'⟩:=iH (asg:=asg) (F:=F) (c:=c) xs [] ρ h step
 exact ⟨ρ',e,fin ρ' h'⟩
theorem ig (I:Nat→DS→Prop)(Dn:DS→Prop)(h:∀ n ρ,I n ρ→(fc ρ= .ok false∧Dn ρ)∨(fc ρ= .ok true∧∃ m ρ',n=m+1∧F ρ= .nx ρ'∧I m ρ')):∀ (n k:Nat) (ρ:DS),n < k→I n ρ→∃ ρ',bI fc F k ρ= .nx ρ'∧Dn ρ'
 | n,k+1,ρ,hk,hI=>by
  rcases h n ρ hI with ⟨h1,h2⟩ | ⟨h1,m,ρ',rfl,h2,h3⟩
  ·refine ⟨ρ,?_,h2⟩
   conv=>lhs; unfold bI
   rw [h1]; rfl
  ·obtain ⟨ρ2,h4,h5⟩:=ig I Dn h m k ρ' (by omega) h3
   refine ⟨ρ2,?_,h5⟩
   rw [← h4]
   conv=>lhs; unfold bI
   rw [h1,bA,if_pos rfl,h2]
theorem lB {x:Res D}(I:Nat→DS→Prop)(Dn:DS→Prop)(n:Nat)(hn:n < k)(h0:I n ρ)(h:∀ n ρ,I n ρ→(fc ρ= .ok false∧Dn ρ)∨(fc ρ= .ok true∧∃ m ρ',n=m+1∧F ρ= .nx ρ'∧I m ρ'))(fin:∀ ρ',Dn ρ'→fv (R ρ')=x):fv ((bI fc F k ρ).then R)=x:=by
 obtain ⟨ρ',e,h'⟩:=ig I Dn h n k ρ hn h0
 rw [e]; exact fin ρ' h'
theorem oO {c:α→D}:∀ (l:List α) (n:Nat),bP n (l.map c)=(l.zipIdx n).map fun q=> .tup [.int (q.2:Int),c q.1]
 | [],n=>rfl
 | x :: l,n=>by
  rw [List.map_cons,List.zipIdx_cons,List.map_cons]
  unfold bP
  rw [oO l (n+1)]
theorem fF {c:α→D}{l:List α}:qN [.lst (l.map c)]= .ok (l.zipIdx.map fun q=> .tup [.int (q.2:Int),c q.1]):=by
 unfold qN; dsimp only; rw [oO]
theorem u9 {β:Type}{c:α→D}{c':β→D}:∀ (l:List α) (l':List β),jf (l.map c) (l'.map c')=(l.zip l').map fun q=> .tup [c q.1,c' q.2]
 | [],_=>by unfold jf; rfl
 | _ :: _,[]=>by unfold jf; rfl
 | a :: l,b :: l'=>by
  rw [List.map_cons,List.map_cons,List.zip_cons_cons,List.map_cons]
  unfold jf
  rw [u9 l l']
theorem sG {β:Type}{c:α→D}{c':β→D}{l:List α}{l':List β}:sd [.lst (l.map c),.lst (l'.map c')]= .ok ((l.zip l').map fun q=> .tup [c q.1,c' q.2]):=by
 unfold sd; dsimp only; rw [u9]
theorem u5 (h:ab j ρ= .ok d):ρ[j]?=some (some d):=by
 unfold ab at h
 split at h
 ·rename_i x e; cases h; exact e
 ·cases h
theorem ce (h:n≤100000):aL n=true:=decide_eq_true h
theorem pK (h:ab j ρ= .ok (.lst l))(hf:f ρ= .ok d)(hl:l.length≤100000):jO j f ρ= .nx (ρ.set j (some (.lst (l ++ [d])))):=by
 unfold jO
 rw [u5 h]; dsimp only
 rw [hf,bA,if_pos (ce hl)]
theorem ux (h:m < n):q_ n (m:Int)=some m:=by
 unfold q_
 rw [if_pos (by omega),if_pos (by omega)]; simp
theorem zm (h:ab j ρ= .ok (.lst l))(hi:fi' ρ= .ok (.int m))(hf:f ρ= .ok d)(hm:l[m]?=some (.lst row))(hr:row.length≤100000):tG j fi' f ρ= .nx (ρ.set j (some (.lst (l.set m (.lst (row ++ [d])))))):=by
 unfold tG
 rw [u5 h]; dsimp only
 rw [hi,bA,hf,bA]
 unfold ql
 dsimp only
 rw [ux (fG hm).1]
 dsimp only
 rw [hm]
 dsimp only
 rw [if_pos (ce hr)]
theorem dI {fe:DS→Res D}{ft:DS→Res Bool}{caps:List (Option Nat)}{xs:List α}{c:α→D}{p:α→Bool}{g:α→D}(hi:fi ρ= .ok (xs.map c))(hl:xs.length≤100000)
  (h:∀ x∈xs,∃ ρ',asg (c x) (c_ caps ρ)=some ρ'∧ft ρ'= .ok (p x)∧(p x=true→fe ρ'= .ok (g x))):aF fi caps asg ft fe ρ= .ok (.lst ((xs.filter p).map g)):=by
 unfold aF
 rw [hi,ar,if_pos (ce (by rw [List.length_map]; exact hl))]
 have go:∀ ys:List α,(∀ x∈ys,∃ ρ',asg (c x) (c_ caps ρ)=some ρ'∧ft ρ'= .ok (p x)∧(p x=true→fe ρ'= .ok (g x)))→
   bq (nC asg (c_ caps ρ) ft) (nC asg (c_ caps ρ) fe) (ys.map c)= .ok ((ys.filter p).map g):=by
  intro ys
  induction ys with
  | nil=>intro _; rfl
  | cons y ys ih=>
   intro h
   refine cw (h y (List.mem_cons_self ..)) fun ρ' h1 h2 h3=> ?_
   have ih:=ih fun x hx=>h x (cI hx)
   rw [List.map_cons]
   unfold bq
   have e1:nC asg (c_ caps ρ) ft (c y)= .ok (p y):=by unfold nC; rw [h1]; exact h2
   rw [e1]
   cases q:p y with
   | true=>
    dsimp only
    have e2:nC asg (c_ caps ρ) fe (c y)= .ok (g y):=by unfold nC; rw [h1]; exact h3 q
    rw [e2]; dsimp only
    rw [ih,ar,List.filter_cons_of_pos q]; rfl
   | false=>
    dsimp only
    rw [ih,List.filter_cons_of_neg (by rw [q]; exact Bool.false_ne_true)]
 rw [go xs h,ar]
theorem aT {fe:DS→Res D}{caps:List (Option Nat)}{xs:List α}{c:α→D}{g:α→D}(hi:fi ρ= .ok (xs.map c))(hl:xs.length≤100000)
  (h:∀ x∈xs,∃ ρ',asg (c x) (c_ caps ρ)=some ρ'∧fe ρ'= .ok (g x)):aF fi caps asg yes fe ρ= .ok (.lst (xs.map g)):=by
 have:=dI (p:=fun _=>true) (ft:=yes) hi hl fun x hx=>(h x hx).imp fun ρ' h=>⟨h.1,rfl,fun _=>h.2⟩
 rw [List.filter_eq_self.mpr fun _ _=>rfl] at this
 exact this
theorem bz {N:List Str}(h:ds.length=n):iz n N F ds=fv (F (aH N ds)):=if_pos h
theorem b8 {g:α→D}{l:List α}{v:α}{i:Nat}(h:l[i]?=some v):aM (.lst (l.map g)) (.int i)= .ok (g v):=mD (ub (by rw [List.getElem?_map,h]; rfl))
theorem cH {g:α→D}{l:List α}:bf [.lst (l.map g)]= .ok (.int l.length):=by rw [pM,List.length_map]
theorem rg {a:Int}{ns:List Int}:nO [.lst ((a :: ns).map D.int)]= .ok (.int (je (a :: ns))):=by unfold nO; dsimp only; rw [fz]
theorem zN {t:List Int}{ts:List (List Int)}:j7 [.lst ((t :: ts).map fun t=> .tup (t.map D.int))]= .ok (.tup ((fB t ts).map D.int)):=by unfold j7; dsimp only; rw [iC]
theorem Aw {n:Nat}:nk 0 n=(List.range n).map fun (i:Nat)=>D.int (i:Int):=by
 unfold nk
 refine List.map_congr_left fun i _=> ?_
 rw [Int.zero_add]
theorem gN {n:Nat}(h:n < 1000000):tF [.int (n:Int)]= .ok ((List.range n).map fun (i:Nat)=>D.int (i:Int)):=by
 unfold tF
 dsimp only
 have:cM (n:Int)=true:=by unfold cM; rw [Bool.and_eq_true,decide_eq_true_eq,decide_eq_true_eq]; omega
 rw [if_pos this,Int.toNat_natCast,Aw]
theorem pP {a b:Int}(h0: -1000000≤a)(h1:a < 1000000)(h2: -1000000≤b)(h3:b < 1000000):yi [.int a,.int b]= .ok (nk a (b - a).toNat):=by
 unfold yi
 dsimp only
 have:(cM a && cM b)=true:=by unfold cM; simp only [Bool.and_eq_true,decide_eq_true_eq]; omega
 rw [if_pos this]
theorem pO {ns:List Int}:bf [.scr ns]= .ok (.int ns.length):=id rfl
theorem BZ {ns:List Int}{i n:Int}(h:atI ns i=some n):aM (.scr ns) (.int i)= .ok (.int n):=by unfold aM; dsimp only; rw [h]
theorem jW {i j:Int}(h1: -(2 ^ 64) < j)(h2:j < 2 ^ 64):b_ (.int i) (.int j)= .ok (.int (i * j)):=by
 unfold b_ Bn; rw [zj h1 h2]
theorem f9 {i j:Int}(h1: -(2 ^ 64) < i)(h2:i < 2 ^ 64):b_ (.int i) (.int j)= .ok (.int (i * j)):=by
 unfold b_ Bn; rw [zi h1 h2]
noncomputable def cellOf (ns:List Int)(k:Int):Int:=if ns.length=0 then 7 else ns.getD (k % ns.length).toNat 0
noncomputable def nu (ns:List Int)(k:Int):Int:=(cellOf ns k * 48271+(k+1) * 7919+ns.length) % 2147483647
noncomputable def FJ (ns:List Int)(k:Int):Int:=(nu ns k * nu ns k+k * 16807+11) % 2147483647
noncomputable def drawn (ns:List Int)(k many:Int):Int:=FJ ns k * 48271 % 2147483647 / 16 % many
theorem AK {ns:List Int}{k:Int}:0≤nu ns k∧nu ns k < 2147483647:=⟨Int.emod_nonneg _ (by decide),Int.emod_lt_of_pos _ (by decide)⟩
theorem d9 {ns:List Int}{k many:Int}(h:0 < many):0≤drawn ns k many∧drawn ns k many < many:=⟨Int.emod_nonneg _ (by omega),Int.emod_lt_of_pos _ h⟩
theorem yZ {ns:List Int}{k:Int}(hz:ns.length≠0):atI ns (k % (ns.length:Int))=some (cellOf ns k):=by
 have hm0:0≤k % (ns.length:Int):=Int.emod_nonneg _ (by omega)
 have hm1:k % (ns.length:Int) < ns.length:=Int.emod_lt_of_pos _ (by omega)
 refine jq hm0 ?_
 have hlt:(k % (ns.length:Int)).toNat < ns.length:=by omega
 rw [ij hlt]
 unfold cellOf
 rw [if_neg hz]
 simp [List.getD,ij hlt]
end
noncomputable def fU (n:Nat):W.KasT (Array Nat)→Bool
 | .ret p=>decide (p.size=n) && p.toList.all (fun i=>decide (i < n)) && (List.range n).all fun i=>p.toList.contains i
 | .ask i j k=>decide (i < n) && decide (j < n) && fU n (k true) && fU n (k false)
theorem jF {n:Nat}{lt:Nat→Nat→Bool}:∀ (t:W.KasT (Array Nat)),fU n t=true→∃ p,no n lt t=some p∧p.size=n∧(∀ i∈p.toList,i < n)∧∀ i,i < n→i∈p.toList
 | .ret p,h=>by
  unfold fU at h
  simp only [Bool.and_eq_true,decide_eq_true_eq,List.all_eq_true] at h
  refine (zH p rfl h.1.1 (fun i hi=>h.1.2 i hi) (fun i hi=> ?_))
  have:=h.2 i (List.mem_range.mpr hi)
  exact List.contains_iff_mem.mp this
 | .ask i j k,h=>by
  unfold fU at h
  simp only [Bool.and_eq_true,decide_eq_true_eq] at h
  obtain ⟨⟨⟨h1,h2⟩,h3⟩,h4⟩:=h
  have e:no n lt (.ask i j k)=no n lt (k (lt i j)):=by
   conv=>lhs; unfold no
   rw [if_pos ⟨h1,h2⟩]
  rw [e]
  cases lt i j with
  | true=>exact jF _ h3
  | false=>exact jF _ h4
theorem zQ:fU 2 (W.kas_sort 2)=true:=by decide +kernel
theorem zR:fU 3 (W.kas_sort 3)=true:=by decide +kernel
theorem zS:fU 4 (W.kas_sort 4)=true:=by decide +kernel
theorem zT:fU 5 (W.kas_sort 5)=true:=by decide +kernel
theorem sY {n:Nat}(h2:2≤n)(h5:n≤5):fU n (W.kas_sort n)=true:=by
 rcases (show n=2∨n=3∨n=4∨n=5 by omega) with rfl | rfl | rfl | rfl
 ·exact zQ
 ·exact zR
 ·exact zS
 ·exact zT
theorem oU (l:List (List Int))(h:l.length≤5)(hne:∀ t∈l,t≠[]):∃ l':List (List Int),fk [.lst (l.map fun t=> .tup (t.map D.int))]= .ok (.lst (l'.map fun t=> .tup (t.map D.int)))∧l'.length=l.length∧∀ t,t∈l'↔t∈l:=by
 by_cases h2:l.length < 2
 ·refine (ik l ?_ rfl (fun _=>Iff.rfl))
  unfold fk
  dsimp only
  rw [if_pos (by rw [List.length_map]; exact h2)]
 ·refine FX (jF (lt:=fun i j=>HT.a_ (l.getD i []) (l.getD j [])) _ (sY (by omega) h)) fun p e h3 h4 h5=> ?_
  refine (ik (p.toList.map fun i=>l.getD i []) ?_ (by rw [List.length_map,Array.length_toList]; exact h3) (fun t=> ?_))
  ·unfold fk
   dsimp only
   rw [if_neg (by rw [List.length_map]; exact h2),iC]
   dsimp only
   rw [if_pos,e]
   ·dsimp only
    rw [if_pos,List.map_map]
    ·rfl
    ·exact ⟨h3,List.all_eq_true.mpr fun i hi=>decide_eq_true (h4 i hi)⟩
   ·rw [Bool.and_eq_true,List.all_eq_true]
    refine ⟨fun t ht=> ?_,decide_eq_true (by omega)⟩
    cases t with
    | nil=>exact absurd rfl (hne [] ht)
    | cons _ _=>rfl
  ·rw [List.mem_map]
   constructor
   ·intro hZ22
    obtain ⟨i,hi,rfl⟩:=hZ22
    have hl:=h4 i hi
    rw [List.getD_eq_getElem?_getD,ij hl]
    exact List.getElem_mem hl
   ·intro ht
    obtain ⟨i,hi,e⟩:=List.getElem_of_mem ht
    refine ⟨i,h5 i hi,?_⟩
    rw [List.getD_eq_getElem?_getD,ij hi]
    exact e
end L2
namespace L2
open PySem PySem.Spec PyProof.Rows
theorem AllW.zero {K:W.Frag}{G H:Hp}:∀ {ds:List D} {vs:List V} {S:List Addr},AllW (Ow K G H 0) ds vs S→S=[]∧RepL K G ds vs
 | [],_,_,h=>by rw [h.1,h.2]; exact ⟨rfl,.nil⟩
 | d :: ds,_,_,h=>by
  refine o_ (h) fun v r A B e1 e2 h1 h2=> ?_
  obtain ⟨e3,h3⟩:=AllW.zero h2
  subst e1 e2 e3
  rw [h1.1]
  exact ⟨rfl,.cons h1.2 h3⟩
theorem AllW.of0 {K:W.Frag}{G H:Hp}:∀ {ds:List D} {vs:List V},RepL K G ds vs→AllW (Ow K G H 0) ds vs []
 | [],_,h=>⟨h.inv0,rfl⟩
 | d :: ds,_,h=>by
  refine bp (h.inv) fun v r hS142 h1 h2=> ?_; subst hS142
  exact (mN v r ([]) ([]) rfl rfl ⟨rfl,h1⟩ (AllW.of0 h2))
theorem RepL.erase {K:W.Frag}{G:Hp}:∀ {ds:List D} {vs:List V} (i:Nat),RepL K G ds vs→RepL K G (ds.eraseIdx i) (vs.eraseIdx i)
 | [],_,i,h=>by rw [h.inv0]; exact .nil
 | d :: ds,_,0,h=>by
  refine bp (h.inv) fun v r hS143 h1 h2=> ?_; subst hS143
  exact h2
 | d :: ds,_,i+1,h=>by
  refine bp (h.inv) fun v r hS144 h1 h2=> ?_; subst hS144
  exact .cons h1 (RepL.erase i h2)
section
variable{X:Cx}{E:XK}{μ:List Nat}{n:Nat}
variable{q:Nat}
theorem xo {m:Nat}{k:Int}{t:Nat}(h:aL m=true)(e:q_ m k=some t): -(2 ^ 63)≤k∧k < 2 ^ 63:=by
 have h7:m≤100000:=of_decide_eq_true h
 refine r_ (pY e) fun _ _ h1 h2=> ?_
 omega
end
section
variable{X:Cx}{E:XK}{μ:List Nat}{n:Nat}
end
theorem Rw.forget {K:W.Frag}{μ:List Nat}{Ge B G H:Hp}{σ:St}{ρ:DS}{fp:Nat→List Addr}{i:Nat}{o:Option V}(R:Rw K μ Ge B G H σ ρ fp):Rw K μ Ge B G H (σ.set i o) (ρ.set i none) (fun j=>if j=i then [] else fp j):=by
 have b:=R.drop (i:=i)
 refine ⟨b.gh,b.eg,b.bh,b.nw,b.gf,b.ob,b.oc,b.nd,b.dj,fun k d e=> ?_⟩
 obtain ⟨v,hv,h⟩:=b.sl k d e
 refine ⟨v,?_,h⟩
 have hk:k≠i:=fun z=>by
  subst z
  rw [List.getElem?_set] at e
  split at e
  ·split at e <;> cases e
  ·rename_i hne; exact hne rfl
 rw [List.getElem?_set_ne (Ne.symm hk)]
 exact hv
section
variable{X:Cx}{E:XK}{μ:List Nat}{n:Nat}
end
section
variable{P:Program}{w:World}{K:W.Frag}{mg:Str→Option Value}{base:Heap}
end
section
variable{P:Program}{w:World}{K:W.Frag}{mg:Str→Option Value}{base:Heap}
end
section
variable{X:Cx}{E:XK}{μ:List Nat}{r n:Nat}
inductive tNA (K:W.Frag)(E:XK)(n:Nat)(f:DS→Res (List D))(σ:St)(H:Hp)(Q:List V→Hp→Prop):Prop
 | mk (G:Hp) (ρ:DS) (s:Same G H) (r:Ro K G σ ρ) (o:OkR E H (f ρ)) (k:∀ ds,f ρ= .ok ds→∀ vs G' H' S,Ext G H G' H'→AllW (Ow K G' H' n) ds vs S→New H G' S→Q vs H')
noncomputable def HB (X:Cx)(E:XK)(n:Nat)(es:List Expr)(f:DS→Res (List D)):Prop:=PA X es (tNA X.K E n f)
theorem Ao:HB X E n [] pN:=fun pos pins s σ H Q I hZ148=>(by obtain ⟨G,ρ,hs,hro,ho,k⟩:=hZ148; exact Calls.spliced_nil ⟨[],H,I,.nil,k [] rfl [] G H [] (.refl hs) ⟨rfl,rfl⟩ .nil⟩)
theorem Am {es:List Expr}{pos:Pos}{f:DS→Res (List D)}(h:HB X E n es f):PN X E (n+1) (.List es pos) (fu f):=by
 refine .tn (tm h) fun σ G H ρ Q hs hro ho k=>⟨G,ρ,hs,hro,ho.fst,fun ds e vs G1 H1 S x1 os w=> ?_⟩
 have kk:=ho.snd e x1.hh
 by_cases hl:aL ds.length=true
 ·refine ⟨by rw [← os.length]; exact bF hl,fun p hp=> ?_⟩
  have hpS:p∉S:=fun z=>by obtain ⟨u,hu,_⟩:=os.has p z; rw [hp] at hu; cases hu
  have gp:G1 p=none:=by
   cases q:G1 p with
   | none=>rfl
   | some u=>rw [x1.gh p u q] at hp; cases hp
  have o1:AllW (Ow X.K G1 (bg H1 p (.lst vs)) n) ds vs S:=os.mono fun d v A _ hA z=>z.mono (.refl _) fun b hb u e=>by
   have hne:b≠p:=fun zz=>hpS (zz ▸ hA b hb)
   rw [ai hne]; exact e
  have w1:New H G1 (p :: S):=⟨List.nodup_cons.mpr ⟨hpS,w.1⟩,fun a ha=>by
   rcases List.mem_cons.mp ha with z | z
   ·subst z; exact ⟨x1.hh.free hp,gp⟩
   ·exact w.2 a z⟩
  exact k (.lst ds) (aq e (if_pos hl)) (.ref p) G1 _ (p :: S) (x1.hnew hp _) (jh p vs S rfl ao rfl o1) w1
 ·rw [if_neg hl] at kk; exact kk.elim
theorem eW {i:Nat}:∀ ρ c,ab i ρ≠ .exc c:=fun ρ c=>u6
end
end L2
namespace L2
open PySem
theorem xK {f g:DS→Res D}{o:D→D→Res D}(hf:∀ ρ c,f ρ≠ .exc c)(hg:∀ ρ c,g ρ≠ .exc c)(ho:∀ {a b:D} {c:Addr},o a b≠ .exc c):∀ ρ c,ac f g o ρ≠ .exc c:=fun ρ c h=>by
 rw [Bd] at h
 cases q:f ρ with
 | exc e=>exact hf ρ e q
 | bad=>rw [q] at h; cases h
 | ok a=>
  rw [q,ar] at h
  cases q2:g ρ with
  | exc e=>exact hg ρ e q2
  | bad=>rw [q2] at h; cases h
  | ok b=>rw [q2,ar] at h; exact ho h
theorem yS {a b:D}{c:Addr}:aO a b≠ .exc c:=by
 unfold aO Bn
 have h1:∀ x y:D,wB x y≠ .exc c:=fun x y h=>by
  unfold wB iq at h
  split at h
  ·split at h <;> cases h
  ·cases h
 have h2:∀ x y:D,wC x y≠ .exc c:=fun x y h=>by
  unfold wC at h
  split at h
  ·split at h <;> cases h
  ·cases h
 have h3:∀ x y:D,vg x y≠ .exc c:=fun x y h=>by
  unfold vg at h
  split at h
  ·split at h <;> cases h
  ·cases h
 intro h
 split at h
 ·split at h
  ·exact h3 _ _ h
  ·exact h2 _ _ h
 ·exact h1 _ _ h
noncomputable def HI:=And.intro @iF (And.intro @Cj (And.intro @Ea (And.intro @Bd (And.intro @DX (And.intro @BO (And.intro @jB (And.intro @zu (And.intro @zv (And.intro @zo (And.intro @zp (And.intro @ar (And.intro @qR (And.intro @bA (And.intro @sC (And.intro @eP (And.intro @sF (And.intro @qV (And.intro @qT (And.intro @wW (And.intro @vx (And.intro @pM (And.intro @zd (And.intro @Ec (And.intro @Bc (And.intro @D_ (And.intro @DZ (And.intro @BM (And.intro @Cl (And.intro @BN (And.intro @Ed (And.intro @Ci (And.intro @za (And.intro @BT (And.intro @Cf (And.intro @BR (And.intro @y9 (And.intro @zk (And.intro @zh (And.intro @zf (And.intro @ze (And.intro @zr (And.intro @zg (And.intro @wX (And.intro @Cm (And.intro @BY (And.intro @zl (And.intro @vw (And.intro @B_ (And.intro @BP (And.intro @zt (And.intro @zn (And.intro @Ee (And.intro @Ch (And.intro @zq (And.intro @ul (And.intro @wY (And.intro @qU (And.intro @wU (And.intro @wV (And.intro @Ck (And.intro @Ca (And.intro @Cb (And.intro @Cc (And.intro @Cd (And.intro @Ce (And.intro @pO (And.intro @BS (And.intro @Cg (And.intro @DY (And.intro @BX (And.intro @Eb (And.intro @BU (And.intro @BW (And.intro @BV (And.intro @zc (And.intro @wS (And.intro @qP @jZ)))))))))))))))))))))))))))))))))))))))))))))))))))))))))))))))))))))))))))))
def aR:=And.intro HI (And.intro @if_true.{1} (And.intro @if_false.{1} (And.intro @Bool.false_eq_true (And.intro @Bool.not_true (And.intro @Bool.not_false (And.intro @Bool.true_and (And.intro @Bool.false_and (And.intro @Bool.true_or (And.intro @Bool.false_or (And.intro @pC.eq_1 (And.intro @pN.eq_1 (And.intro @kI.eq_1 (And.intro @kB.eq_1 (And.intro @kS.eq_1 (And.intro @c1.eq_1 (And.intro @sL.eq_1 (And.intro @sT.eq_1 (And.intro @sR1.eq_1 (And.intro @sR2.eq_1 (And.intro @sE.eq_1 (And.intro @sZ.eq_1 (And.intro @oI.eq_1 (And.intro @oN.eq_1 (And.intro @tR.eq_1 (And.intro @nG.eq_1 (And.intro @yes.eq_1 (And.intro @bad1.eq_1 (And.intro @nxt.eq_1 (And.intro @List.length_map.{0,0} (And.intro @beq_self_eq_true.{0} @bne_self_eq_false.{0}))))))))))))))))))))))))))))))
section
variable{α:Type}{ρ ρ' ρ1:DS}{F R:DS→Out}{asg:D→DS→Option DS}{d:D}
end
theorem lV {n:Nat}{α:Type}{f:α→D}:∀ (l:List α),(∀ x∈l,aZ n (f x)=true)→plL n (l.map f)=true
 | [],_=>by unfold plL; rfl
 | x :: l,h=>by
  rw [List.map_cons]
  unfold plL
  rw [h x (List.mem_cons_self ..),lV l fun y hy=>h y (cI hy)]
  rfl
theorem k8 {n:Nat}{i:Int}:aZ n (.int i)=true:=by unfold aZ; rfl
theorem qj {n:Nat}{α:Type}{f:α→D}{l:List α}(h:∀ x∈l,aZ n (f x)=true):aZ (n+1) (.lst (l.map f))=true:=by
 unfold aZ
 rw [show n+1 - 1=n from rfl,lV l h,decide_eq_true (by omega)]
 rfl
theorem uD {d:D}(h:aZ 20 d=true):vW d d= .ok (.bl false):=by
 unfold vW
 rw [if_pos ⟨h,h⟩,mB h]
 rfl
section
variable{ρ:DS}{F:DS→Out}{fi fa f:DS→Res D}{l row ds:List D}{j m t n:Nat}{d:D}{N:List Str}
theorem dS {R:DS→Out}{x:Res D}(ρ':DS)(h:F ρ= .nx ρ')(hr:fv (R ρ')=x):fv (ay F R ρ)=x:=by
 rw [iF,h]; exact hr
theorem oE {n:Nat}{α:Type}{f:α→D}{l:List α}(h:∀ x∈l,d_ n (f x)=true):d_ (n+1) (.lst (l.map f))=true:=by
 unfold d_
 rw [List.all_eq_true]
 intro d hd
 obtain ⟨x,hx,rfl⟩:=List.mem_map.mp hd
 exact h x hx
end
end L2
namespace L2
open PySem PySem.Spec PyProof.Rows
noncomputable def gc:D→List D
 | .lst l=>l
 | .tup l=>l
 | .dct _ l=>l
 | _=>[]
noncomputable def rK:D→List D→D
 | .lst _,l=> .lst l
 | .tup _,l=> .tup l
 | .dct ks _,l=> .dct ks l
 | d,_=>d
noncomputable def uz:HO→List V
 | .lst xs=>xs
 | .tup xs=>xs
 | .dT kvs=>kvs.map (·.2)
 | _=>[]
noncomputable def fR:List Nat→D→Option D
 | [],d=>some d
 | m :: p,d=>match (gc d)[m]? with | some c=>fR p c | none=>none
noncomputable def ir:List Nat→D→D→D
 | [],_,e=>e
 | m :: p,d,e=>match (gc d)[m]? with | some c=>rK d ((gc d).set m (ir p c e)) | none=>d
noncomputable def valP (H:Hp):List Nat→V→V→Prop
 | [],v,u=>u=v
 | m :: p,v,u=>∃ a o w,v= .ref a∧H a=some o∧(uz o)[m]?=some w∧valP H p w u
theorem valP.mono {H H':Hp}(s:Same H H'):∀ {p:List Nat} {v u:V},valP H p v u→valP H' p v u
 | [],_,_,h=>h
 | _ :: _,_,_,⟨a,o,w,e,h,k,r⟩=>⟨a,o,w,e,s _ _ h,k,valP.mono s r⟩
theorem valP.one {H:Hp}:∀ {p:List Nat} {v u u':V},valP H p v u→valP H p v u'→u=u'
 | [],_,_,_,h,h'=>h.trans h'.symm
 | _ :: _,_,_,_,⟨a,o,w,e,h,k,r⟩,⟨a',o',w',e',h',k',r'⟩=>by
  subst e
  cases e'
  rw [h] at h'
  cases h'
  rw [k] at k'
  cases k'
  exact valP.one r r'
theorem valP.snoc {H:Hp}{m:Nat}{a:Addr}{o:HO}{w:V}(h:H a=some o)(k:(uz o)[m]?=some w):∀ {p:List Nat} {v:V},valP H p v (.ref a)→valP H (p ++ [m]) v w
 | [],_,e=>(jh a o w e.symm h k rfl)
 | _ :: _,_,⟨a',o',w',e',h',k',r⟩=>⟨a',o',w',e',h',k',valP.snoc h k r⟩
theorem qW {d c:D}{m:Nat}(h:L2.flat d=true)(e:(gc d)[m]?=some c):L2.flat c=true:=by
 cases d with
 | lst l=>unfold L2.flat at h; cases h
 | dct ks l=>unfold L2.flat at h; cases h
 | tup l=>unfold L2.flat at h; exact kL h (List.mem_of_getElem? e)
 | _=>simp [gc] at e
theorem mF:∀ {p:List Nat} {d c:D},L2.flat d=true→fR p d=some c→L2.flat c=true
 | [],d,c,h,e=>by cases e; exact h
 | m :: p,d,c,h,e=>by
  have e':(match (gc d)[m]? with | some c=>fR p c | none=>none)=some c:=e
  cases q:(gc d)[m]? with
  | none=>rw [q] at e'; cases e'
  | some k=>rw [q] at e'; exact mF (qW h q) e'
section
variable{K:W.Frag}{G H:Hp}
theorem Ow.kid {n m:Nat}{d c:D}{v:V}{S:List Addr}(h:Ow K G H (n+1) d v S)(e:(gc d)[m]?=some c)(hc:L2.flat c=false) :
  ∃ a o T,v= .ref a∧H a=some o∧S=a :: T∧AllW (Ow K G H n) (gc d) (uz o) T∧∀ (H':Hp) l' T',H' a=some o→T'≠[]→AllW (Ow K G H' n) l' (uz o) T'→Ow K G H' (n+1) (rK d l') v (a :: T'):=by
 cases d with
 | lst l=>
  refine jd (h) fun a xs T e1 e2 e3 h1=> ?_
  exact (oA a _ T e1 e2 e3 h1 (fun H' l' T' h' _ o=>(jh a xs T' e1 h' rfl o)))
 | dct ks l=>
  refine iV (h) fun a xs T e1 e2 e4 e3 h1=> ?_
  exact (oA a _ T e1 e2 e3 h1 (fun H' l' T' h' _ o=>(oA a xs T' e1 h' e4 rfl o)))
 | tup l=>
  rcases h with h | ⟨a,xs,T,e1,e2,e3,e5,h1⟩
  ·rw [qW h.1 e] at hc; cases hc
  ·exact (oA a _ T e1 e2 e3 h1 (fun H' l' T' h' n o=> .inr (oA a xs T' e1 h' rfl n o)))
 | _=>simp [gc] at e
theorem w6 {l:List D}:L2.flat (.lst l)=false:=by unfold L2.flat; rfl
theorem wZ {ks:List (List bu)}{l:List D}:L2.flat (.dct ks l)=false:=by unfold L2.flat; rfl
theorem Ow.at:∀ {p:List Nat} {n:Nat} {d c:D} {v:V} {S:List Addr},Ow K G H (n+p.length) d v S→fR p d=some c→L2.flat c=false→∃ u A,valP H p v u∧Ow K G H n c u A
 | [],n,d,c,v,S,h,e,hc=>by cases e; exact (kQ v S rfl h)
 | m :: p,n,d,c,v,S,h,e,hc=>by
  have e':(match (gc d)[m]? with | some c=>fR p c | none=>none)=some c:=e
  cases q:(gc d)[m]? with
  | none=>rw [q] at e'; cases e'
  | some k=>
   rw [q] at e'
   have hk:L2.flat k=false:=by
    cases z:L2.flat k with
    | false=>rfl
    | true=>rw [mF z e'] at hc; cases hc
   refine iV (Ow.kid (n:=n+p.length) h q hk) fun a o T e1 e2 e3 h1 _=> ?_
   refine o_ (h1.at q) fun w A L R g1 g2 g3 g4=> ?_
   refine lh (Ow.at g3 e' hc) fun u A' h2 h3=> ?_
   exact (kQ u A' (jh a o w e1 e2 g1 h2) h3)
theorem rR {α:Type}{l:List α}{m:Nat}{x:α}(h:l[m]?=some x):l.set m x=l:=by
 apply List.ext_getElem?
 intro k
 by_cases hk:k=m
 ·subst hk; rw [List.getElem?_set_self (fG h).1,h]
 ·rw [List.getElem?_set_ne (Ne.symm hk)]
theorem Ow.path:∀ {p:List Nat} {n:Nat} {d:D} {row:List D} {v:V} {S:List Addr},Ow K G H (n+1+p.length) d v S→fR p d=some (.lst row)→S.Nodup→
  ∃ b ys U L R,valP H p v (.ref b)∧H b=some (.lst ys)∧S=L ++ (b :: U) ++ R∧AllW (Ow K G H n) row ys U∧
   (∀ q t a,p=q ++ t→t≠[]→valP H q v (.ref a)→a≠b)∧
   ∀ ys' row' U',AllW (Ow K G (bg H b (.lst ys')) n) row' ys' U'→Ow K G (bg H b (.lst ys')) (n+1+p.length) (ir p d (.lst row')) v (L ++ (b :: U') ++ R)
 | [],n,d,row,v,S,h,e,nd=>by
  cases e
  refine jd (h) fun a xs T e1 e2 e3 h1=> ?_
  exact (Cq a xs T ([]) ([]) e1.symm e2 (by rw [e3]; simp) h1 (fun q t a e hn=>absurd (List.append_eq_nil_iff.mp e.symm).2 hn) (fun ys' row' U' o=>(jh a ys' U' e1 ao (by simp) o)))
 | m :: p,n,d,row,v,S,h,e,nd=>by
  have e':(match (gc d)[m]? with | some c=>fR p c | none=>none)=some (.lst row):=e
  cases q:(gc d)[m]? with
  | none=>rw [q] at e'; cases e'
  | some k=>
   rw [q] at e'
   have hk:L2.flat k=false:=by
    cases z:L2.flat k with
    | false=>rfl
    | true=>have:=mF z e'; rw [w6] at this; cases this
   refine cps fun PP kP=> ?_
   refine iV (Ow.kid (n:=n+1+p.length) h q hk) fun a o T e1 e2 e3 h1 back=> ?_
   refine o_ (h1.at q) fun w A L R g1 g2 g3 g4=> ?_
   subst e3
   obtain ⟨haT,hT⟩:=List.nodup_cons.mp nd
   rw [g2] at hT haT
   obtain ⟨h2,h3,h4⟩:=List.nodup_append.mp hT
   obtain ⟨h5,h6,h7⟩:=List.nodup_append.mp h2
   refine DF (Ow.path g3 e' h6) fun b ys U L2 R2 k1 k2 k3 k4 k6 k5=> ?_
   refine kP ?_; clear kP PP
   have hbA:b∈A:=by rw [k3]; exact List.mem_append_left _ (List.mem_append_right _ (List.mem_cons_self ..))
   have nb:∀ c,c∈L∨c∈R→c≠b:=fun c hc z=>by
    subst z
    rcases hc with y | y
    ·exact h7 c y c hbA rfl
    ·exact h4 c (List.mem_append_right _ hbA) c y rfl
   have hab:a≠b:=fun z=>haT (z ▸ List.mem_append_left _ (List.mem_append_right _ hbA))
   refine (Cq b ys U (a :: (L ++ L2)) (R2 ++ R) (jh a o w e1 e2 g1 k1) k2 (by rw [g2,k3]; simp [List.append_assoc]) k4 (fun q t x eq hn hx=> ?_) (fun ys' row' U' ou=> ?_))
   ·cases q with
    | nil=>cases (show V.ref x=v from hx); cases e1; exact hab
    | cons i q=>
     cases eq
     refine jd (hx) fun a2 o2 w2 z1 z2 z3 z4=> ?_
     subst e1
     cases z1
     rw [e2] at z2
     cases z2
     rw [g1] at z3
     cases z3
     exact k6 q t x rfl hn z4
   have big:=g4 (Ow K G (bg H b (.lst ys')) (n+1+p.length)) (fun d v C hC z=>z.mono (.refl _) fun c hc u eu=>by rw [ai (nb c (hC c hc))]; exact eu) (ir p k (.lst row')) w (L2 ++ (b :: U') ++ R2) (k5 ys' row' U' ou)
   rw [rR g1] at big
   have fin:=back (bg H b (.lst ys')) ((gc d).set m (ir p k (.lst row'))) (L ++ (L2 ++ (b :: U') ++ R2) ++ R) (by rw [ai hab]; exact e2) (by intro z; simp at z) big
   have es:ir (m :: p) d (.lst row')=rK d ((gc d).set m (ir p k (.lst row'))):=by
    show (match (gc d)[m]? with | some c=>rK d ((gc d).set m (ir p c (.lst row'))) | none=>d)=_
    rw [q]
   rw [es]
   have el:a :: (L ++ L2) ++ (b :: U') ++ (R2 ++ R)=a :: (L ++ (L2 ++ (b :: U') ++ R2) ++ R):=by simp [List.append_assoc]
   rw [el]
   exact fin
end
section
variable{K:W.Frag}{μ:List Nat}{Ge B G H:Hp}{σ:St}{ρ:DS}{fp:Nat→List Addr}{j n:Nat}
theorem Rw.path {p:List Nat}{d:D}{row:List D}(R:Rw K μ Ge B G H σ ρ fp)(hm:μ.getD j 0=n+1+p.length)(hr:ρ[j]?=some (some d))(hp:fR p d=some (.lst row)) :
  ∃ v b ys U,σ[j]?=some (some v)∧valP H p v (.ref b)∧H b=some (.lst ys)∧AllW (Ow K G H n) row ys U∧U.Nodup∧b∉U∧b∈fp j∧(∀ c∈U,c∈fp j)∧(∀ q t a,p=q ++ t→t≠[]→valP H q v (.ref a)→a≠b)∧
   ∀ ys' row' U',AllW (Ow K G (bg H b (.lst ys')) n) row' ys' U'→U'.Nodup→(∀ c∈U',c∈U∨((G c=none∧B c=none)∧∀ i,c∉fp i))→∃ fp',Rw K μ Ge B G (bg H b (.lst ys')) σ (ρ.set j (some (ir p d (.lst row')))) fp':=by
 refine cps fun PP kP=> ?_
 obtain ⟨v,hv,o⟩:=R.sl j d hr
 rw [hm] at o
 refine DF (o.path hp (R.nd j)) fun b ys U L Q h1 h2 h3 h4 h6 h5=> ?_
 have nd:=R.nd j
 rw [h3] at nd
 obtain ⟨n1,n2,n3⟩:=List.nodup_append.mp nd
 obtain ⟨n4,n5,n6⟩:=List.nodup_append.mp n1
 obtain ⟨n7,n8⟩:=List.nodup_cons.mp n5
 refine kP ?_; clear kP PP
 have sb:b∈fp j:=by rw [h3]; exact List.mem_append_left _ (List.mem_append_right _ (List.mem_cons_self ..))
 have sU:∀ c∈U,c∈fp j:=fun c r=>by rw [h3]; exact List.mem_append_left _ (List.mem_append_right _ (cI r))
 have sL:∀ c∈L,c∈fp j:=fun c r=>by rw [h3]; exact List.mem_append_left _ (List.mem_append_left _ r)
 have sQ:∀ c∈Q,c∈fp j:=fun c r=>by rw [h3]; exact List.mem_append_right _ r
 refine (Ex v b ys U hv h1 h2 h4 n8 n7 sb sU h6 (fun ys' row' U' ou nU hU=> ?_))
 have ndm:(L ++ (b :: U') ++ Q).Nodup:=kZ nd (List.nodup_cons.mpr ⟨fun z=>by
   rcases hU b z with y | y
   ·exact n7 y
   ·exact y.2 j sb,nU⟩) fun c r=>by
  rcases List.mem_cons.mp r with z | z
  ·subst z; exact .inl (List.mem_cons_self ..)
  ·rcases hU c z with y | y
   ·exact .inl (cI y)
   ·exact .inr ⟨fun x=>y.2 j (sL c x),fun x=>y.2 j (sQ c x)⟩
 have old:∀ c∈L ++ (b :: U') ++ Q,c∈fp j∨((G c=none∧B c=none)∧∀ i,c∉fp i):=fun c r=>by
  rcases List.mem_append.mp r with z | z
  ·rcases List.mem_append.mp z with y | y
   ·exact .inl (sL c y)
   ·rcases List.mem_cons.mp y with x | x
    ·subst x; exact .inl sb
    ·exact (hU c x).imp (sU c) id
  ·exact .inl (sQ c z)
 refine ⟨_,R.write (S:=L ++ (b :: U') ++ Q) sb hv (by rw [hm]; exact h5 ys' row' U' ou) ndm (fun c r=> ?_) fun i hi c r hci=> ?_⟩
 ·rcases old c r with y | y
  ·exact ⟨R.gf j c y,R.ob j c y⟩
  ·exact y.1
 ·rcases old c r with y | y
  ·exact hi (R.dj i j c hci y)
  ·exact y.2 i hci
end
inductive tAt (K:W.Frag)(E:XK)(μ:List Nat)(j:Nat)(g:DS→Res (List Nat))(σ:St)(H:Hp)(Q:VK):Prop
 | mk (Ge B G:Hp) (ρ:DS) (fp:Nat→List Addr) (R:Rw K μ Ge B G H σ ρ fp) (o:OkR E B (g ρ)) (k:∀ p,g ρ= .ok p→∀ v0 v G' H',σ[j]?=some (some v0)→valP H' p v0 v→Rw K μ Ge B G' H' σ ρ fp→Same G G'→Same H H'→Q v H')
noncomputable def DN (X:Cx)(E:XK)(μ:List Nat)(j:Nat)(e:Expr)(g:DS→Res (List Nat)):Prop:=PE X e (tAt X.K E μ j g)
noncomputable def vc (j:Nat):DS→Res (List Nat):=fun ρ=>match ρ[j]? with | some (some _)=> .ok [] | _=> .bad
section
variable{X:Cx}{E:XK}{μ:List Nat}{r n j:Nat}
theorem su {x:Str}{px:Pos}(hN:X.N[j]?=some x)(hv:t9 X.env.scope x)(hd:(x == ("__debug__" :Str))=false:=by decide)(hcd:(x == ("__classdict__" :Str))=false:=by decide):DN X E μ j (.Name x px) (vc j):=by
 intro pins s σ H Q I hZ23
 obtain ⟨Ge,B,G,ρ,fp,R,ho,k⟩:=hZ23
 have hs:∃ d,ρ[j]?=some (some d):=by
  unfold vc at ho
  split at ho
  ·rename_i d q; exact ⟨d,q⟩
  ·exact ho.elim
 obtain ⟨d,hd'⟩:=hs
 obtain ⟨v,hv',_⟩:=R.sl j d hd'
 exact eY hN hv hd hcd pins s σ H Q I ⟨v,hv',k [] (by unfold vc; rw [hd']) v v G H hv' rfl R (.refl _) (.refl _)⟩
theorem Rw.node {K:W.Frag}{Ge B G H:Hp}{σ:St}{ρ:DS}{fp:Nat→List Addr}{p:List Nat}{d c:D}{m:Nat}(R:Rw K μ Ge B G H σ ρ fp)(hm:μ.getD j 0=m+p.length)(hr:ρ[j]?=some (some d))(hp:fR p d=some c)(hc:L2.flat c=false){v0 v:V}(hv:σ[j]?=some (some v0))(h:valP H p v0 v):∃ A,Ow K G H m c v A:=by
 obtain ⟨w,hw,o⟩:=R.sl j d hr
 rw [hv] at hw
 cases hw
 rw [hm] at o
 refine lh (o.at hp hc) fun u A h1 h2=> ?_
 cases valP.one h h1
 exact ⟨A,h2⟩
noncomputable def nQ (ρ:DS)(j n:Nat)(p:List Nat)(f:List D→Out):Out:=if p.length=n then (match ρ[j]? with
 | some (some t)=>(match fR p t with | some (.lst row)=>f row | _=> .bad)
 | _=> .bad) else .bad
noncomputable def wE (ρ:DS)(j:Nat)(p:List Nat)(row:List D)(d:D):Out:=match ρ[j]? with
 | some (some t)=>if aL row.length=true then .nx (ρ.set j (some (ir p t (.lst (row ++ [d]))))) else .bad
 | _=> .bad
noncomputable def pj (j n:Nat)(g:DS→Res (List Nat))(f:DS→Res D):DS→Out:=fun ρ=>(g ρ).out fun p=>(f ρ).out fun d=>nQ ρ j n p fun row=>wE ρ j p row d
theorem uS {ρ:DS}{n:Nat}{p:List Nat}{f:List D→Out}{B:Hp}(h:OkO E B (nQ ρ j n p f)):p.length=n∧∃ t row,ρ[j]?=some (some t)∧fR p t=some (.lst row)∧nQ ρ j n p f=f row:=by
 unfold nQ at h
 by_cases hn:p.length=n
 ·rw [if_pos hn] at h
  refine ⟨hn,?_⟩
  cases hr:ρ[j]? with
  | none=>rw [hr] at h; exact h.elim
  | some od=>
  cases od with
  | none=>rw [hr] at h; exact h.elim
  | some t=>
  rw [hr] at h
  dsimp only at h
  cases hp:fR p t with
  | none=>rw [hp] at h; exact h.elim
  | some c=>
  rw [hp] at h
  cases c with
  | lst row=>exact (du t row rfl hp (by unfold nQ; rw [if_pos hn,hr]; dsimp only; rw [hp]))
  | _=>exact h.elim
 ·rw [if_neg hn] at h; exact h.elim
theorem uM {o e:Expr}{apos cpos pos:Pos}{g:DS→Res (List Nat)}{f:DS→Res D}{m:Nat}(hm:μ.getD j 0=m+1+n)(hpa:DN X E μ j o g)(h:PZ X E μ m e f)(hex:∀ ρ c,f ρ≠ .exc c)
  (hs:starEach [e] X.env=(false,eval e X.env) :: starEach [] X.env:=by rfl)
  (hbase:attributeBase o "append" X.env (eval o X.env)=eval o X.env:=by rfl)
  (hfew:((backTo cpos (starEach [e] X.env)).all (fun x=> !x.1) && (backToKw cpos (keywordEach [] X.env)).all (fun x=>x.1.isSome) && decide (([e].length+([]:List Keyword).length+if ([]:List Keyword).isEmpty=true then 0 else 1) < 30))=true:=by rfl)
  (hline:(apos.endLine == cpos.line)=true:=by rfl)
  (hsw:swapsWith (.Call (.Attribute o "append" apos) [e] [] cpos) none pos.line X.env=pure false:=by rfl) :
  lJ X E μ r (.Expr (.Call (.Attribute o "append" apos) [e] [] cpos) pos) (pj j n g f):=by
 intro pins s σ Ge B G H ρ fp I R ho
 have hp:=ly (apos:=apos) (cpos:=cpos) (r:=dk) PySem.F.plainAttrs_list PySem.F.slot_list_append PySem.F.type_list_append (show yP X "list.append" dk from gn) hpa (df (tq h) fV hs) hbase hfew hline hs rfl
 refine aW (fJ hp hsw pins s σ H { nx:=fun σ' H'=>∃ P G' O,pj j n g f ρ= .nx P∧σ'=σ∧Rw X.K μ Ge B G' H' σ P O∧Same G G',bk:=fun _ _=>False,ct:=fun _ _=>False,rt:=fun _ _=>False } I ⟨Ge,B,G,ρ,fp,R,ho.res,fun p ep v0 v G1 H1 hv hval R1 sg sh=> ?_⟩) fun fl s1 J=> ?_
 ·have k:=ho.res2 ep (Same.refl B)
  have hfd:∃ d,f ρ= .ok d:=by
   cases q:f ρ with
   | ok d=>exact ⟨d,rfl⟩
   | exc c=>exact absurd q (hex ρ c)
   | bad=>rw [q] at k; exact k.elim
  obtain ⟨d0,i⟩:=hfd
  have kk:=k.res2 i (Same.refl B)
  have e0:pj j n g f ρ=nQ ρ j n p fun row=>wE ρ j p row d0:=by unfold pj; rw [bO ep,bO i]
  refine nY (uS kk) fun hn t row hr hg e1=> ?_
  rw [e1] at kk
  subst hn
  have e2:wE ρ j p row d0=if aL row.length=true then .nx (ρ.set j (some (ir p t (.lst (row ++ [d0]))))) else .bad:=by unfold wE; rw [hr]
  rw [e2] at kk
  by_cases hc:aL row.length=true
  ·have e3:=(e0.trans e1).trans (e2.trans (if_pos hc))
   refine wu (R1.path hm hr hg) fun v1 b ys U c0 c1 c2 c3 c4 c5 c6 c7 c8 c9=> ?_
   rw [hv] at c0
   cases c0
   have:=hval.one c1
   subst this
   refine ⟨.inl ⟨rfl,ys,.inl (.inl c2)⟩,?_⟩
   refine ⟨Ge,B,G1,ρ,fp,R1,by rw [i]; trivial,fun d ed v G2 H2 S R2 sg2 sh2 o w=> ?_⟩
   rw [i] at ed
   cases ed
   refine (oA b ys v rfl rfl (sh2 _ _ c2) (by rw [← c3.length]; exact gd hc) ?_)
   refine wu (R2.path hm hr hg) fun v1 b2 ys2 U2 p0 p1 p2 p3 p4 p5 p6 p7 p8 p9=> ?_
   rw [hv] at p0
   cases p0
   have:=(c1.mono sh2).one p1
   cases this
   rw [sh2 _ _ c2] at p2
   cases p2
   have fr:=R2.freshOf w R1
   have neU:∀ c,c∈U2→c≠b:=fun c L z=>p5 (z ▸ L)
   have neS:∀ c,c∈S→c≠b:=fun c L z=>(fr c L).2 j (z ▸ p6)
   obtain ⟨O,R3⟩:=p9 (ys ++ [v]) (row ++ [d0]) (U2 ++ S) (.append (p3.mono fun d v A _ hA z=>z.mono (.refl _) fun c L u e=>by rw [ai (neU c (hA c L))]; exact e) (.one (o.mono (.refl _) fun c L u e=>by rw [ai (neS c L)]; exact e))) (List.nodup_append.mpr ⟨p4,w.1,fun c L c2 hc2 e=>by subst e; exact (fr c hc2).2 j (p7 c L)⟩) (fun c L=>(List.mem_append.mp L).imp id (fr c))
   exact (jh _ _ O e3 rfl R3 (sg.trans sg2))
  ·rw [if_neg hc] at kk; exact kk.elim
 ·cases fl with
  | next=>
   obtain ⟨σ',H',I',P,G',O,e1,e2,R',sg⟩:=J
   subst e2
   exact ⟨P,_,G',H',O,e1,I',R',sg⟩
  | brk=>obtain ⟨_,_,_,J⟩:=J; exact J.elim
  | cont=>obtain ⟨_,_,_,J⟩:=J; exact J.elim
  | ret u=>obtain ⟨_,_,_,_,_,J⟩:=J; exact J.elim
end
section
variable{X:Cx}{E:XK}{μ:List Nat}{r n j:Nat}
noncomputable def vy (ρ:DS)(j:Nat)(p:List Nat)(row:List D)(d:D):Out:=match ρ[j]?,d with
 | some (some t),.lst l=>if aL (row.length+l.length)=true then .nx (ρ.set j (some (ir p t (.lst (row ++ l))))) else .bad
 | _,_=> .bad
noncomputable def pQ (j n:Nat)(g:DS→Res (List Nat))(f:DS→Res D):DS→Out:=fun ρ=>(g ρ).out fun p=>(f ρ).out fun d=>nQ ρ j n p fun row=>vy ρ j p row d
theorem Ak {o e:Expr}{apos cpos pos:Pos}{g:DS→Res (List Nat)}{f:DS→Res D}(hm:μ.getD j 0=0+1+n)(hpa:DN X E μ j o g)(h:PZ X E μ 0 e f)(hex:∀ ρ c,f ρ≠ .exc c)
  (hs:starEach [e] X.env=(false,eval e X.env) :: starEach [] X.env:=by rfl)
  (hbase:attributeBase o "extend" X.env (eval o X.env)=eval o X.env:=by rfl)
  (hfew:((backTo cpos (starEach [e] X.env)).all (fun x=> !x.1) && (backToKw cpos (keywordEach [] X.env)).all (fun x=>x.1.isSome) && decide (([e].length+([]:List Keyword).length+if ([]:List Keyword).isEmpty=true then 0 else 1) < 30))=true:=by rfl)
  (hline:(apos.endLine == cpos.line)=true:=by rfl)
  (hsw:swapsWith (.Call (.Attribute o "extend" apos) [e] [] cpos) none pos.line X.env=pure false:=by rfl) :
  lJ X E μ r (.Expr (.Call (.Attribute o "extend" apos) [e] [] cpos) pos) (pQ j n g f):=by
 intro pins s σ Ge B G H ρ fp I R ho
 have hp:=ly (apos:=apos) (cpos:=cpos) (r:=qm) PySem.F.plainAttrs_list PySem.F.slot_list_extend PySem.F.type_list_extend (show yP X "list.extend" qm from vU) hpa (df (tq h) fV hs) hbase hfew hline hs rfl
 refine aW (fJ hp hsw pins s σ H { nx:=fun σ' H'=>∃ P G' O,pQ j n g f ρ= .nx P∧σ'=σ∧Rw X.K μ Ge B G' H' σ P O∧Same G G',bk:=fun _ _=>False,ct:=fun _ _=>False,rt:=fun _ _=>False } I ⟨Ge,B,G,ρ,fp,R,ho.res,fun p ep v0 v G1 H1 hv hval R1 sg sh=> ?_⟩) fun fl s1 J=> ?_
 ·have k:=ho.res2 ep (Same.refl B)
  have hfd:∃ d,f ρ= .ok d:=by
   cases q:f ρ with
   | ok d=>exact ⟨d,rfl⟩
   | exc c=>exact absurd q (hex ρ c)
   | bad=>rw [q] at k; exact k.elim
  obtain ⟨d0,i⟩:=hfd
  have kk:=k.res2 i (Same.refl B)
  have e0:pQ j n g f ρ=nQ ρ j n p fun row=>vy ρ j p row d0:=by unfold pQ; rw [bO ep,bO i]
  refine nY (uS kk) fun hn t row hr hg e1=> ?_
  rw [e1] at kk
  subst hn
  unfold vy at kk
  rw [hr] at kk
  cases d0 with
  | lst l=>
   dsimp only at kk
   by_cases hc:aL (row.length+l.length)=true
   ·have e2:vy ρ j p row (.lst l)= .nx (ρ.set j (some (ir p t (.lst (row ++ l))))):=by unfold vy; rw [hr]; exact if_pos hc
    refine wu (R1.path hm hr hg) fun v1 b ys U c0 c1 c2 c3 c4 c5 c6 c7 c8 c9=> ?_
    rw [hv] at c0
    cases c0
    have:=hval.one c1
    subst this
    refine ⟨.inl ⟨rfl,ys,.inl (.inl c2)⟩,Ge,B,G1,ρ,fp,R1,by rw [i]; trivial,fun d ed v G2 H2 S R2 sg2 sh2 o w=> ?_⟩
    rw [i] at ed
    cases ed
    refine cps fun PP kP=> ?_
    obtain ⟨_,rp⟩:=o
    rw [rep_lst] at rp
    refine bp (rp) fun q zs hS145 lz rl=> ?_; subst hS145
    refine wu (R2.path hm hr hg) fun v1 b2 ys2 U2 p0 p1 p2 p3 p4 p5 p6 p7 p8 p9=> ?_
    refine kP ?_; clear kP PP
    rw [hv] at p0
    cases p0
    have:=(c1.mono sh2).one p1
    cases this
    rw [sh2 _ _ c2] at p2
    cases p2
    obtain ⟨eU,rr⟩:=p3.zero
    obtain ⟨O,R3⟩:=p9 (ys ++ zs) (row ++ l) [] (.of0 (rr.append rl)) List.nodup_nil (fun c h=>by cases h)
    exact (Ey b q ys zs rfl rfl (sh2 _ _ c2) (R2.gh _ _ lz.h) (by rw [← rr.length,← rl.length]; exact bF hc) _ _ O ((e0.trans e1).trans e2) rfl R3 (sg.trans sg2))
   ·rw [if_neg hc] at kk; exact kk.elim
  | _=>exact kk.elim
 ·cases fl with
  | next=>
   obtain ⟨σ',H',I',P,G',O,e1,e2,R',sg⟩:=J
   subst e2
   exact ⟨P,_,G',H',O,e1,I',R',sg⟩
  | brk=>obtain ⟨_,_,_,J⟩:=J; exact J.elim
  | cont=>obtain ⟨_,_,_,J⟩:=J; exact J.elim
  | ret u=>obtain ⟨_,_,_,_,_,J⟩:=J; exact J.elim
end
noncomputable def cc (ks:List (List bu))(k:List bu):Option Nat:=ks.findIdx? (fun q=>decide (q=k))
theorem jE {q k:List bu}{ks:List (List bu)}:cc (q :: ks) k=if q=k then some 0 else (cc ks k).map (· + 1):=by
 unfold cc
 rw [List.findIdx?_cons]
 by_cases e:q=k
 ·rw [decide_eq_true e,if_pos e]; rfl
 ·rw [decide_eq_false e,if_neg e]; rfl
theorem kT {k:List bu}:∀ {kvs:List (List bu×V)} {m:Nat},cc (kvs.map (·.1)) k=some m→iu kvs k=(kvs.map (·.2))[m]?
 | [],m,h=>by cases h
 | (q,v) :: r,m,h=>by
  rw [List.map_cons,jE] at h
  by_cases e:q=k
  ·rw [if_pos e] at h; cases h; exact ky e
  ·rw [if_neg e] at h
   cases z:cc (r.map (·.1)) k with
   | none=>rw [z] at h; cases h
   | some m'=>
    rw [z] at h
    cases h
    rw [iU e,kT z]
    rfl
theorem mP {k:List bu}{ks:List (List bu)}{m:Nat}(h:cc ks k=some m):m < ks.length:=by
 unfold cc at h
 exact (List.findIdx?_eq_some_iff_getElem.mp h).1
theorem sN {k:List bu}{kvs:List (List bu×V)}(h:cc (kvs.map (·.1)) k=none):iu kvs k=none:=by
 induction kvs with
 | nil=>rfl
 | cons p r ih=>
  rw [List.map_cons,jE] at h
  by_cases e:p.1=k
  ·rw [if_pos e] at h; cases h
  ·rw [if_neg e] at h
   rw [iU e]
   apply ih
   cases z:cc (r.map (·.1)) k with
   | none=>rfl
   | some m'=>rw [z] at h; cases h
theorem oK {k:List bu}{v:V}:∀ {kvs:List (List bu×V)},¬ k∈kvs.map (·.1)→(kvs.map fun kv=>if kv.1=k then (kv.1,v) else kv)=kvs
 | [],_=>rfl
 | p :: r,h=>by
  have h1:¬ p.1=k:=fun e=>h (by rw [List.map_cons,e]; exact List.mem_cons_self ..)
  rw [List.map_cons,if_neg h1,oK fun z=>h (cI z)]
theorem uT {k:List bu}{v:V}:∀ {kvs:List (List bu×V)} {m:Nat},(kvs.map (·.1)).Nodup→cc (kvs.map (·.1)) k=some m→(kvs.map fun kv=>if kv.1=k then (kv.1,v) else kv).map (·.1)=kvs.map (·.1)∧(kvs.map fun kv=>if kv.1=k then (kv.1,v) else kv).map (·.2)=(kvs.map (·.2)).set m v
 | [],m,_,h=>by cases h
 | p :: r,m,nd,h=>by
  rw [List.map_cons,jE] at h
  rw [List.map_cons] at nd
  obtain ⟨n1,n2⟩:=List.nodup_cons.mp nd
  by_cases e:p.1=k
  ·rw [if_pos e] at h
   cases h
   rw [List.map_cons,if_pos e,oK (by rw [← e]; exact n1)]
   exact ⟨rfl,rfl⟩
  ·rw [if_neg e] at h
   cases z:cc (r.map (·.1)) k with
   | none=>rw [z] at h; cases h
   | some m'=>
    rw [z] at h
    cases h
    obtain ⟨a,b⟩:=uT n2 z
    rw [List.map_cons,if_neg e]
    exact ⟨by rw [List.map_cons,List.map_cons,a],by rw [List.map_cons,List.map_cons,b]; rfl⟩
theorem ya {k:List bu}{v:V}{kvs:List (List bu×V)}{m:Nat}(nd:(kvs.map (·.1)).Nodup)(h:cc (kvs.map (·.1)) k=some m):(e_ kvs k v).map (·.1)=kvs.map (·.1)∧(e_ kvs k v).map (·.2)=(kvs.map (·.2)).set m v:=by
 have e:e_ kvs k v=kvs.map fun kv=>if kv.1=k then (kv.1,v) else kv:=by
  unfold e_
  rw [if_pos (by rw [kx,kT h,ij (by rw [List.length_map]; have:=mP h; rwa [List.length_map] at this)]; rfl)]
 rw [e]
 exact uT nd h
noncomputable def lF (ks:List (List bu))(l:List D)(k:List bu)(d:D):D:=match cc ks k with
 | some m=> .dct ks (l.set m d)
 | none=> .dct (ks ++ [k]) (l ++ [d])
noncomputable def pF (j:Nat)(ks:List (List bu))(l:List D)(ρ:DS)(d i:D):Out:=match i with
 | .tup kd=>(match gb kd with | some k=>if aL ks.length=true then .nx (ρ.set j (some (lF ks l k d))) else .bad | none=> .bad)
 | _=> .bad
noncomputable def jU (j:Nat)(fi f:DS→Res D):DS→Out:=fun ρ=>match ρ[j]? with
 | some (some (.dct ks l))=>(f ρ).out fun d=>(fi ρ).out fun i=>pF j ks l ρ d i
 | _=> .bad
noncomputable def DW (ρ:DS)(j:Nat)(p:List Nat)(i:D):Res (List Nat):=match ρ[j]? with
 | some (some d)=>(match fR p d with
  | some (.dct ks l)=>(match i with | .tup kd=>(match gb kd with | some k=>(match cc ks k with | some m=> .ok (p ++ [m]) | none=> .bad) | none=> .bad) | _=> .bad)
  | _=> .bad)
 | _=> .bad
noncomputable def yV (j n:Nat)(g:DS→Res (List Nat))(fi:DS→Res D):DS→Res (List Nat):=fun ρ=>(g ρ).bind fun p=>(fi ρ).bind fun i=>if p.length=n then DW ρ j p i else .bad
theorem lm {H:Hp}:∀ {kvs:List (List bu×V)} {xs:List (List bu×Addr×Value)},Paired (fun (p:List bu×V) (q:List bu×Addr×Value)=>p.1=q.1∧H q.2.1=some (.tup (p.1.map kV))∧RelV p.2 q.2.2) kvs xs→kvs.map (·.1)=xs.map (·.1)
 | _,_,.nil=>rfl
 | _,_,.cons q t=>by rw [List.map_cons,List.map_cons,q.1,lm t]
theorem Inv.dnd {X:Cx}{pins:List (Addr×Obj)}{σ:St}{H:Hp}{s:Shared}{a:Addr}{kvs:List (List bu×V)}(I:Inv X pins σ H s)(h:H a=some (.dT kvs)):(kvs.map (·.1)).Nodup:=by
 refine DC (I.hok a _ h) fun _ _ xs pr _ _ _ _ _ _ _ nd=> ?_
 rw [lm pr]; exact nd
section
variable{X:Cx}{E:XK}{μ:List Nat}{r n j:Nat}
theorem uQ {pos:Pos}:PN X E (n+1) (.Dict [] [] pos) (fun _=> .ok (.dct [] [])):=by
 intro pins s σ G H ρ I hs hr ho
 refine aW (xU pins s σ H (fun v H'=>∃ p,v= .ref p∧H p=none∧H'=bg H p (.dT [])) I fun p hp=>(ik p rfl hp rfl)) fun u s' hZ149=> ?_
 obtain ⟨v,H',I',rv,p,e1,hp,e2⟩:=hZ149
 subst e1 e2
 refine ⟨.dct [] [],rfl,.ref p,G,_,[p],I',rv,(Ext.refl hs).hnew hp _,(EV p ([]) ([]) rfl ao rfl rfl rfl rfl),by simp,fun a ha=> ?_⟩
 have e:a=p:=by simpa using ha
 subst e
 refine ⟨hp,?_⟩
 cases q:G a with
 | none=>rfl
 | some o=>have:=hs a o q; rw [hp] at this; cases this
theorem A_ {o i:Expr}{pos:Pos}{g:DS→Res (List Nat)}{fi:DS→Res D}{m:Nat}(hu:X.A.units+64 < cLine)(hm:μ.getD j 0=m+1+n)(ho:DN X E μ j o g)(hi:PD X E i fi)(hpi:yQ i:=by intro _ _; rfl):DN X E μ j (.Subscript o i pos) (yV j n g fi):=by
 intro pins s σ H Q I hZ24
 obtain ⟨Ge,B,G,ρ,fp,R,hok,k⟩:=hZ24
 refine uK (pos:=pos) (by omega) ho (dR hi) hpi pins s σ H Q I ?_
 refine ⟨Ge,B,G,ρ,fp,R,hok.fst,fun p ep v0 v G1 H1 hv hval R1 sg sh=>⟨nV fp G1 H1,ρ,R1.vh,R1.ro,(hok.snd ep (Same.refl B)).fst.le R1.bh,fun di ei vi G3 H3 x3 ri=> ?_⟩⟩
 have L:=(hok.snd ep (Same.refl B)).snd ei (Same.refl B)
 by_cases hn:p.length=n
 ·subst hn
  rw [if_pos rfl] at L
  have e0:yV j p.length g fi ρ=DW ρ j p di:=by unfold yV; rw [ep,ar,ei,ar,if_pos rfl]
  unfold DW at L
  cases hr:ρ[j]? with
  | none=>rw [hr] at L; exact L.elim
  | some od=>
  cases od with
  | none=>rw [hr] at L; exact L.elim
  | some d=>
  rw [hr] at L
  dsimp only at L
  cases hp:fR p d with
  | none=>rw [hp] at L; exact L.elim
  | some c=>
  rw [hp] at L
  cases c with
  | dct ks l=>
   dsimp only at L
   cases di with
   | tup kd=>
    dsimp only at L
    cases q1:gb kd with
    | none=>rw [q1] at L; exact L.elim
    | some kq=>
    rw [q1] at L
    dsimp only at L
    cases q2:cc ks kq with
    | none=>rw [q2] at L; exact L.elim
    | some m'=>
    refine DB (R1.node (m:=m+1) hm hr hp wZ hv hval) fun A a M T e1 e2 e4 e3 h1=> ?_
    subst e1 e4
    rw [rep_tup] at ri
    refine bp (ri) fun b xs hS146 tb rk=> ?_; subst hS146
    have hx:=i6 rk q1
    subst hx
    have hlt:m' < (M.map (·.2)).length:=by have:=mP q2; rwa [List.length_map] at this ⊢
    have hw:(M.map (·.2))[m']?=some ((M.map (·.2))[m']):=ij hlt
    refine (du a ((M.map (·.2))[m']) rfl (.inr (jh M kq b (.inl (x3.hh _ _ e2)) rfl (x3.gh _ _ tb.h) (by rw [kT q2]; exact hw.symm))) ?_)
    refine k (p ++ [m']) (e0.trans ?_) v0 _ (nF (ot fp) G3) H3 hv ((hval.mono x3.hh).snoc (x3.hh _ _ e2) hw) (R1.grow x3) (sg.trans (R1.gg x3)) (sh.trans x3.hh)
    unfold DW; rw [hr]; dsimp only; rw [hp]; dsimp only; rw [q1]; dsimp only; rw [q2]
   | _=>exact L.elim
  | _=>exact L.elim
 ·rw [if_neg hn] at L; exact L.elim
theorem uN {x:Str}{i e:Expr}{px tpos pos:Pos}{fi f:DS→Res D}(hu:X.A.units+64 < cLine)(hm:μ.getD j 0=n+1)(hN:X.N[j]?=some x)(hv:t9 X.env.scope x)(hi:PD X E i fi)(h:PZ X E μ n e f)
  (hd:(x == ("__debug__" :Str))=false:=by decide) (hcd:(x == ("__classdict__" :Str))=false:=by decide)
  (hs:swapsWith e (some (.Subscript (.Name x px) i tpos)) pos.line X.env=pure false:=by rfl) :
  lJ X E μ r (.Assign [.Subscript (.Name x px) i tpos] e pos) (jU j fi f):=by
 intro pins s σ Ge B G H t Y I R ho
 have hslot:∃ g l,t[j]?=some (some (.dct g l)):=by
  unfold jU at ho
  split at ho
  ·rename_i g l q; exact ⟨g,l,q⟩
  ·exact ho.elim
 obtain ⟨g,l,hr⟩:=hslot
 have eo:jU j fi f t=(f t).out fun d=>(fi t).out fun i=>pF j g l t d i:=by
  unfold jU
  rw [hr]
 rw [eo] at ho ⊢
 have top:∀ {G H:Hp},Rw X.K μ Ge B G H σ t Y→∃ a M T,σ[j]?=some (some (.ref a))∧H a=some (.dT M)∧M.map (·.1)=g∧Y j=a :: T∧AllW (Ow X.K G H n) l (M.map (·.2)) T:=fun {G H} R=>by
  obtain ⟨v,hv,o⟩:=R.sl j _ hr
  rw [hm] at o
  refine iV (o) fun a M T e1 e2 e4 e3 h1=> ?_
  subst e1
  exact (oA a M T hv e2 e4 e3 h1)
 refine iV (top R) fun a M T0 h1 h2 h4 h3 h5=> ?_
 have nd:=I.dnd h2
 have hp:=Ar (pos:=pos) (pos':=tpos) (by omega) (eY (pos:=px) hN hv hd hcd) (dR hi) (tq h) hs
 refine aW (hp pins s σ H { nx:=fun σ' H'=>∃ ρ' G' O,((f t).out fun d=>(fi t).out fun i=>pF j g l t d i)= .nx ρ'∧σ'=σ∧Rw X.K μ Ge B G' H' σ ρ' O∧Same G G',bk:=fun _ _=>False,ct:=fun _ _=>False,rt:=fun _ _=>False } I ⟨Ge,B,G,t,Y,R,ho.res,fun d ed v G1 H1 S R1 sg sh o w=> ?_⟩) fun fl s1 W=> ?_
 ·have k:=ho.res2 ed (Same.refl B)
  refine ⟨_,h1,nV Y G1 H1,t,R1.vh,R1.ro,k.res.le R1.bh,fun di ei vi G3 H3 x3 ri=> ?_⟩
  have kk:=k.res2 ei (Same.refl B)
  have e0:((f t).out fun d=>(fi t).out fun i=>pF j g l t d i)=pF j g l t d di:=by rw [bO ed,bO ei]
  unfold pF at kk
  cases di with
  | tup kd=>
   dsimp only at kk
   cases q1:gb kd with
   | none=>rw [q1] at kk; exact kk.elim
   | some J=>
   rw [q1] at kk
   dsimp only at kk
   by_cases F:aL g.length=true
   ·have e0:=e0.trans (show pF j g l t d (.tup kd)= .nx (t.set j (some (lF g l J d))) by unfold pF; dsimp only; rw [q1]; exact if_pos F)
    rw [rep_tup] at ri
    refine cps fun PP kP=> ?_
    refine bp (ri) fun b xs hS147 tb rk=> ?_; subst hS147
    have hx:=i6 rk q1
    subst hx
    have Z:=R1.grow x3
    refine iV (top Z) fun a2 kvs2 T g1 g2 g4 g3 g5=> ?_
    refine kP ?_; clear kP PP
    rw [h1] at g1
    cases g1
    rw [x3.hh _ _ (sh _ _ h2)] at g2
    cases g2
    have hcS:∀ b∈S,∃ u,H1 b=some u∧¬ qb u:=fun b p=>let ⟨u,e,c⟩:=o.cell b p; ⟨u,e,c.nokey⟩
    have w3:=w.keep hcS (fun i b p=>R.apart w i b p) x3
    have fr:=Z.freshOf w3 R
    have o3:=o.mono (R1.gg x3) fun b _ u e=>x3.hh b u e
    have hnd:=Z.nd j
    rw [g3] at hnd
    obtain ⟨haT,hTn⟩:=List.nodup_cons.mp hnd
    have V:a∈Y j:=by rw [g3]; exact List.mem_cons_self ..
    have P:∀ b∈T,b∈Y j:=fun b p=>by rw [g3]; exact cI p
    have neT:∀ b,b∈T→b≠a:=fun b p z=>haT (z ▸ p)
    have neS:∀ b,b∈S→b≠a:=fun b p z=>(fr b p).2 j (z ▸ V)
    have fin:∀ (T':List Addr) (d':D),Ow X.K (nF (ot Y) G3) (bg H3 a (.dT (e_ M J v))) (n+1) d' (.ref a) (a :: T')→T'.Nodup→(∀ c∈T',c∈T∨c∈S)→lF g l J d=d'→∃ O,Rw X.K μ Ge B (nF (ot Y) G3) (bg H3 a (.dT (e_ M J v))) σ (t.set j (some d')) O:=fun T' d' ow ndT hT' _=>by
     refine ⟨_,Z.write V h1 (by rw [hm]; exact ow) (List.nodup_cons.mpr ⟨fun z=> ?_,ndT⟩) (fun c F=> ?_) fun i hi c F hci=> ?_⟩
     ·rcases hT' a z with y | y
      ·exact haT y
      ·exact neS a y rfl
     ·rcases List.mem_cons.mp F with z | z
      ·subst z; exact ⟨Z.gf j _ V,Z.ob j _ V⟩
      ·rcases hT' c z with y | y
       ·exact ⟨Z.gf j _ (P c y),Z.ob j _ (P c y)⟩
       ·exact (fr c y).1
     ·rcases List.mem_cons.mp F with z | z
      ·subst z; exact hi (Z.dj i j _ hci V)
      ·rcases hT' c z with y | y
       ·exact hi (Z.dj i j _ hci (P c y))
       ·exact (fr c y).2 i hci
    have key:∃ O,Rw X.K μ Ge B (nF (ot Y) G3) (bg H3 a (.dT (e_ M J v))) σ (t.set j (some (lF g l J d))) O:=by
     cases q2:cc g J with
     | some m=>
      rw [← h4] at q2
      obtain ⟨y1,y2⟩:=ya (v:=v) nd q2
      have hml:m < l.length:=by rw [g5.length,List.length_map]; have:=mP q2; rwa [List.length_map] at this
      refine o_ (g5.at (ij hml)) fun w0 A L Q f1 f2 f3 f4=> ?_
      have hT:=hTn
      rw [f2] at hT
      have U:∀ c,c∈L∨c∈Q→c∈T:=fun c F=>by rw [f2]; rcases F with z | z; exact List.mem_append_left _ (List.mem_append_left _ z); exact List.mem_append_right _ z
      have big:=f4 (Ow X.K (nF (ot Y) G3) (bg H3 a (.dT (e_ M J v))) n) (fun d v C hC z=>z.mono (.refl _) fun b p u e=>by rw [ai (neT b (U b (hC b p)))]; exact e) d v S (o3.mono (.refl _) fun b p u e=>by rw [ai (neS b p)]; exact e)
      have ed':lF g l J d= .dct g (l.set m d):=by unfold lF; rw [← h4,q2]
      rw [ed']
      refine fin (L ++ S ++ Q) _ (oA a (e_ M J v) (L ++ S ++ Q) rfl ao (by rw [y1,h4]) rfl (by rw [y2]; exact big)) (kZ hT w.1 fun c F=> .inr ⟨fun z=>(fr c F).2 j (P c (U c (.inl z))),fun z=>(fr c F).2 j (P c (U c (.inr z)))⟩) (fun c F=> ?_) ed'
      rcases List.mem_append.mp F with z | z
      ·rcases List.mem_append.mp z with y | y
       ·exact .inl (U c (.inl y))
       ·exact .inr y
      ·exact .inl (U c (.inr z))
     | none=>
      have q3:=q2
      rw [← h4] at q3
      have ek:e_ M J v=M ++ [(J,v)]:=x_ v (sN q3)
      have ed':lF g l J d= .dct (g ++ [J]) (l ++ [d]):=by unfold lF; rw [q2]
      rw [ed']
      refine fin (T ++ S) _ (oA a (e_ M J v) (T ++ S) rfl ao (by rw [ek,List.map_append,h4]; rfl) rfl ?_) (List.nodup_append.mpr ⟨hTn,w.1,fun b p c F e=>by subst e; exact (fr b F).2 j (P b p)⟩) (fun c F=>List.mem_append.mp F) ed'
      rw [ek,List.map_append]
      refine AllW.append (g5.mono fun d v A _ hA z=>z.mono (.refl _) fun b p u e=>by rw [ai (neT b (hA b p))]; exact e) (.one (o3.mono (.refl _) fun b p u e=>by rw [ai (neS b p)]; exact e))
    obtain ⟨O,R4⟩:=key
    have h9:M.length < sizeLine:=by
     have e9:M.length=g.length:=by rw [← h4,List.length_map]
     rw [e9]; exact gd F
    exact (Ez a _ rfl (.inr (oA M J b (x3.hh _ _ (sh _ _ h2)) rfl (x3.gh _ _ tb.h) h9 rfl)) _ _ O e0 rfl R4 (sg.trans (R1.gg x3)))
   ·rw [if_neg F] at kk; exact kk.elim
  | _=>exact kk.elim
 ·cases fl with
  | next=>
   obtain ⟨σ',H',I',ρ',G',O,e1,e2,R',sg⟩:=W
   subst e2
   exact ⟨ρ',_,G',H',O,e1,I',R',sg⟩
  | brk=>obtain ⟨_,_,_,W⟩:=W; exact W.elim
  | cont=>obtain ⟨_,_,_,W⟩:=W; exact W.elim
  | ret u=>obtain ⟨_,_,_,_,_,W⟩:=W; exact W.elim
end
section
variable{X:Cx}{E:XK}{μ:List Nat}{r n:Nat}
end
noncomputable def xj (l:List D)(d:D):Option Nat:=l.findIdx? fun y=>bR y d
noncomputable def mJ (d e:D):Res D:=match d with
 | .lst l=>if plL 19 l=true∧aZ 19 e=true∧aL l.length=true then (match xj l e with | some j=> .ok (.int (j:Nat)) | none=> .bad) else .bad
 | _=> .bad
noncomputable def yb (K:W.Frag):V→List V→Hp→VK→Prop:=fun x vs H Q=>∃ G l dx y j,Same G H∧Rep K G (.lst l) x∧vs=[y]∧Rep K G dx y∧plL 19 l=true∧aZ 19 dx=true∧aL l.length=true∧xj l dx=some j∧Q (.int (j:Nat)) H
section
variable{X:Cx}{E:XK}{μ:List Nat}{r n:Nat}
theorem xG (hu:X.A.units+64 < cLine):yP X "list.index" (yb X.K):=by
 intro pins s σ H x vs v us Q I rx rv h
 refine cps fun PP kP=> ?_
 obtain ⟨G,l,dx,y,j,hs,rl,rfl,ry,hp,hd,hlk,hj,q⟩:=h
 rw [rep_lst] at rl
 obtain ⟨a,xs,rfl,sq,rl⟩:=rl
 refine kP ?_; clear kP PP
 cases rx
 refine cps fun PP kP=> ?_
 obtain ⟨u,rfl,ru⟩:=rv.one
 obtain ⟨E,r,p⟩:=I.isLst (hs.seq sq.sq)
 obtain ⟨⟨cls,dd,data,sl⟩,ho,hc,n,hdt⟩:=id p
 refine kP ?_; clear kP PP
 simp only at hc hdt
 subst hc hdt
 obtain ⟨hjl,hjt,hjn⟩:=List.findIdx?_eq_some_iff_getElem.mp hj
 have len1:=rl.length
 have len2:=r.length
 have at':∀ m (h1:m < l.length) (h2:m < E.toArray.size),ww X.K G l dx E.toArray[m]=bR l[m] dx:=fun m h1 h2=>by
  obtain ⟨z,hz,rz⟩:=rl.get (ij h1)
  obtain ⟨w,hw,rw'⟩:=r.get hz
  have e:E.toArray[m]=w:=by
   have:E.toArray[m]?=some w:=by rw [List.getElem?_toArray]; exact hw
   rw [Array.getElem?_eq_getElem h2] at this
   exact Option.some.inj this
  rw [e]
  exact fT I hs hp (List.getElem_mem h1) rz rw'
 have hsz:E.toArray.size=l.length:=by rw [List.size_toArray]; omega
 have hlk':l.length≤100000:=of_decide_eq_true hlk
 refine call_meets PySem.F.slot_list_index ⟨_,ho,rfl⟩ PySem.F.entry_list_index (PySem.F.args_list_index_2 _ _) (PySem.SeqAt.list_indexAt a E.toArray n dd sl u (ww X.K G l dx) j (by omega) (by omega) ((at' j hjl (by omega)).trans hjt) fun m hm hlt=> ?_) ⟨ho,fun w hw=> ?_,?_⟩
 ·rw [at' m (by omega) hm]
  have:=hjn m hlt
  simpa using this
 ·obtain ⟨d,z,h1,h2,h3⟩:=j6 rl r (by simpa using hw)
  rw [fT I hs hp h1 h2 h3]
  exact (mx I hs 19 19 d dx z y w u _ (dh hp h1) hd h2 ry h3 ru (by show X.A.units+1+19 < cLine; omega)).1
 ·exact ⟨.int (j:Nat),H,I.tok _,⟨_,rfl⟩,q⟩
theorem xP {o e:Expr}{apos cpos:Pos}{fo fe:DS→Res D}(hu:X.A.units+64 < cLine)(hoo:PD X E o fo)(he:PD X E e fe)(hex:∀ ρ c,fe ρ≠ .exc c)
  (hs:starEach [e] X.env=(false,eval e X.env) :: starEach [] X.env:=by rfl)
  (hbase:attributeBase o "index" X.env (eval o X.env)=eval o X.env:=by rfl)
  (hfew:((backTo cpos (starEach [e] X.env)).all (fun x=> !x.1) && (backToKw cpos (keywordEach [] X.env)).all (fun x=>x.1.isSome) && decide (([e].length+([]:List Keyword).length+if ([]:List Keyword).isEmpty=true then 0 else 1) < 30))=true:=by rfl)
  (hline:(apos.endLine == cpos.line)=true:=by rfl):PD X E (.Call (.Attribute o "index" apos) [e] [] cpos) (ac fo fe mJ):=by
 intro pins s σ G H ρ I hsm hro hok
 have hp:=ly (apos:=apos) (cpos:=cpos) (r:=yb X.K) PySem.F.plainAttrs_list PySem.F.slot_list_index PySem.F.type_list_index (xG hu) (dR hoo) (df (dR he) fV hs) hbase hfew hline hs rfl
 refine aW (hp pins s σ H (fun v H'=>∃ d G',ac fo fe mJ ρ= .ok d∧Ext G H G' H'∧Rep X.K G' d v) I ⟨G,ρ,hsm,hro,hok.fst,fun d1 e1 v1 G1 H1 x1 p1=> ?_⟩) fun u s' hZ150=>(by obtain ⟨v,H',I',r',d,G',e,x,rp⟩:=hZ150; exact ⟨d,e,v,G',H',I',r',x,rp⟩)
 have kk:=hok.snd e1 x1.hh
 have ty:∃ l,d1= .lst l:=by
  cases q:fe ρ with
  | ok d2=>
   have M:=kk.snd q (Same.refl H1)
   unfold mJ at M
   split at M
   ·exact ⟨_,rfl⟩
   ·exact M.elim
  | exc c=>exact absurd q (hex ρ c)
  | bad=>rw [q] at kk; exact kk.elim
 obtain ⟨l,rfl⟩:=ty
 have p1':=p1
 rw [rep_lst] at p1'
 refine bp (p1') fun a xs hS148 sq rl=> ?_; subst hS148
 refine ⟨.inl ⟨rfl,xs,x1.gh.seq sq.sq⟩,G1,ρ,x1.gh,hro.mono x1.gg,kk.fst,fun d2 e2 v2 G2 H2 x2 p2=> ?_⟩
 have M:=kk.snd e2 x2.hh
 have eo:ac fo fe mJ ρ=mJ (.lst l) d2:=by unfold ac; rw [e1,ar,e2,ar]
 unfold mJ at M
 dsimp only at M
 by_cases hc:plL 19 l=true∧aZ 19 d2=true∧aL l.length=true
 ·rw [if_pos hc] at M
  cases q:xj l d2 with
  | none=>rw [q] at M; exact M.elim
  | some j=>
   have e3:mJ (.lst l) d2= .ok (.int (j:Nat)):=by unfold mJ; dsimp only; rw [if_pos hc,q]
   exact (EA G2 l d2 v2 j x2.gh (p1.mono x2.gg) rfl p2 hc.1 hc.2.1 hc.2.2 q (.int (j:Nat)) G2 (eo.trans e3) (x1.trans x2) (rep_int.mpr rfl))
 ·rw [if_neg hc] at M; exact M.elim
end
theorem uE:∀ (ρ:DS) (c:Addr),pN ρ≠ .exc c:=fun ρ c h=>by cases h
theorem lv {f:DS→Res D}{g:DS→Res (List D)}(hf:∀ ρ c,f ρ≠ .exc c)(hg:∀ ρ c,g ρ≠ .exc c):∀ ρ c,pC f g ρ≠ .exc c:=fun ρ c h=>by
 unfold pC at h
 cases q:f ρ with
 | ok d=>
  rw [q] at h
  cases q2:g ρ with
  | ok d=>rw [q2] at h; cases h
  | exc e=>exact hg ρ e q2
  | bad=>rw [q2] at h; cases h
 | exc e=>exact hf ρ e q
 | bad=>rw [q] at h; cases h
theorem xJ {μ:List Nat}{f:DS→Res D}(hf:∀ ρ c,f ρ≠ .exc c):∀ ρ c,da μ f ρ≠ .exc c:=fun ρ c h=>hf _ c h
theorem qe {f:DS→Res (List D)}(hf:∀ ρ c,f ρ≠ .exc c):∀ ρ c,bX f ρ≠ .exc c:=fun ρ c h=>by
 unfold bX at h
 cases q:f ρ with
 | ok d=>rw [q,ar] at h; split at h <;> cases h
 | exc e=>exact hf ρ e q
 | bad=>rw [q] at h; cases h
section
variable{j jr n m:Nat}{g:DS→Res (List Nat)}{fi f:DS→Res D}{ρ:DS}{p:List Nat}{t d:D}{l rows:List D}{c:Int}
theorem wR (h:ρ[j]?=some (some d)):vc j ρ= .ok []:=by unfold vc; rw [h]
theorem uk {F:List D→Out}(hn:p.length=n)(ht:ρ[j]?=some (some t))(hp:fR p t=some (.lst rows)):nQ ρ j n p F=F rows:=by
 unfold nQ
 rw [if_pos hn,ht]
 dsimp only
 rw [hp]
theorem y_ (hg:g ρ= .ok p)(hf:f ρ= .ok d)(hn:p.length=n)(ht:ρ[j]?=some (some t))(hp:fR p t=some (.lst rows))(hr:rows.length≤100000):pj j n g f ρ= .nx (ρ.set j (some (ir p t (.lst (rows ++ [d]))))):=by
 unfold pj
 rw [hg,bA,hf,bA,uk hn ht hp]
 unfold wE
 rw [ht]
 exact if_pos (decide_eq_true hr)
theorem zb (hg:g ρ= .ok p)(hf:f ρ= .ok (.lst l))(hn:p.length=n)(ht:ρ[j]?=some (some t))(hp:fR p t=some (.lst rows))(hr:rows.length+l.length≤100000):pQ j n g f ρ= .nx (ρ.set j (some (ir p t (.lst (rows ++ l))))):=by
 unfold pQ
 rw [hg,bA,hf,bA,uk hn ht hp]
 unfold vy
 rw [ht]
 exact if_pos (decide_eq_true hr)
theorem uj {ks:List (List bu)}{k:List bu}{kd:List D}(ht:ρ[j]?=some (some (.dct ks l)))(hf:f ρ= .ok d)(hi:fi ρ= .ok (.tup kd))(hk:gb kd=some k)(hl:ks.length≤100000):jU j fi f ρ= .nx (ρ.set j (some (lF ks l k d))):=by
 unfold jU
 rw [ht]
 dsimp only
 rw [hf,bA,hi,bA]
 unfold pF
 dsimp only
 rw [hk]
 exact if_pos (decide_eq_true hl)
theorem BQ {ks:List (List bu)}{k:List bu}{kd:List D}(hg:g ρ= .ok p)(hn:p.length=n)(hi:fi ρ= .ok (.tup kd))(hk:gb kd=some k)(ht:ρ[j]?=some (some t))(hp:fR p t=some (.dct ks l))(hm:cc ks k=some m):yV j n g fi ρ= .ok (p ++ [m]):=by
 unfold yV
 rw [hg,ar,hi,ar,if_pos hn]
 unfold DW
 rw [ht]
 dsimp only
 rw [hp]
 dsimp only
 rw [hk]
 dsimp only
 rw [hm]
end
theorem len1 {α:Type}{P:List α→Prop}(h:∀ a,P [a]):∀ us:List α,us.length=1→P us
 | [a],_=>h a
theorem len2 {α:Type}{P:List α→Prop}(h:∀ a b,P [a,b]):∀ us:List α,us.length=2→P us
 | [a,b],_=>h a b
theorem nJ {α:Type}{P:List α→Prop}(h:∀ a b c,P [a,b,c]):∀ us:List α,us.length=3→P us
 | [a,b,c],_=>h a b c
theorem CA {α:Type}{P:List α→Prop}(h:∀ a b c d,P [a,b,c,d]):∀ us:List α,us.length=4→P us
 | [a,b,c,d],_=>h a b c d
theorem CB {α:Type}{P:List α→Prop}(h:∀ a b c d e,P [a,b,c,d,e]):∀ us:List α,us.length=5→P us
 | [a,b,c,d,e],_=>h a b c d e
section
variable{K:W.Frag}{f:Addr}{x y:Str}{s:Stmt}{m:Str}{t c:Nat}
noncomputable def kf (x y:Str)(s:Stmt)(m:Str)(t c:Nat):Obj:=⟨.type "function",none,.func (W.fnOf x y (gM s) (cG s) (ag s) .none .none .none (.str m t) none (.ref c) .none),#[]⟩
inductive FK (K:W.Frag)(f:Addr)(x y:Str)(s:Stmt):Prop
 | mk (m:Str) (t c:Nat) (l:K.lookup f=some (kf x y s m t c)) (d:W.codeIn K (.ref c) y=true)
inductive FT (K:W.Frag)(x:Str)(s:Stmt):Prop
 | mk (f:Addr) (a:W.nsIn K mainGlobals x=some (some (.ref f))) (g:FK K f x x s)
inductive FM (K:W.Frag)(C:Addr)(x y:Str)(s:Stmt):Prop
 | mk (f:Addr) (a:W.findIn K (.ref C) x=some (some (.ref f))) (g:FK K f x y s)
theorem p_ (l:K.lookup f=some (kf x y s m t c)):W.keepIn K (.ref f)=true:=by
 unfold W.keepIn
 dsimp only
 rw [l]
 rfl
theorem FK.kp:FK K f x y s→W.keepIn K (.ref f)=true
 | ⟨_,_,_,l,_⟩=>p_ l
theorem FK.fn:FK K f x y s→W.isFn K (.ref f)=true
 | ⟨_,_,_,l,_⟩=>by
  unfold W.isFn W.typeIn
  dsimp only
  rw [l]
  rfl
theorem FK.mk1:FK K f x y s→∃ fd,Fun K x y s f fd
 | ⟨_,_,_,l,d⟩=>⟨_,xa l d (p_ l)⟩
theorem lg {h:Heap}{mg:Str→Option Value}{ps:List Str}(X:K.In h)(G:h.Ns mainGlobals mg)(g:FT K x s)
  (b:∀ (kV doc pm:Value) (an:Option Addr) (cdv ct:Value) (us:List Value),us.length=ps.length→bindArgs (W.fnOf x x (gM s) (cG s) (ag s) .none kV doc pm an cdv ct) ⟨us,[]⟩=pure (ps.zip us)):Sta K mg x s ps:=by
 obtain ⟨f,a,g⟩:=g
 obtain ⟨fd,F⟩:=g.mk1
 exact ⟨f,fd,F,F.binds b,W.mg_of X G a,g.kp⟩
end
end L2
namespace L2
open PySem
noncomputable def RawD (h:Heap)(d:Addr)(es:Array DictEntry)(ep:Nat):Prop:=∃ o,h.get? d=some o∧o.ExactDict∧o.data= .dict es ep
theorem RawD.ty {s:Shared}{d:Addr}{es:Array DictEntry}{ep:Nat}(r:RawD s.heap d es ep):s.TypeIs (.ref d) "dict" :=let ⟨o,e,x,_⟩:=r; ⟨o,e,x.1⟩
section
variable{P:Program}{w:World}{A:Around}{E:Value→Shared→Prop}{s:Shared}{d it:Addr}{es:Array DictEntry}{ep i:Nat}
theorem yc {Q:Value→Shared→Prop}(hd:(d == sysModules)=false)(r:RawD s.heap d es ep)
  (q:Q (.ref s.heap.objs.size) { s with heap:=s.heap.push ⟨.type "dict_keyiterator",none,.fields #[.ref d,.int 0 0,.int es.size 0,.int ep 0],#[]⟩ }):wpAny (model P w) A (pyIter (.ref d)) Q E s:=by
 have ty:=r.ty
 refine cw (r) fun o e x dt=> ?_
 refine wpAny_pyIter_slot ty PySem.F.slot_dict_iter (wpAny_call_entry PySem.F.slot_dict_iter ty PySem.F.entry_dict_iter ?_ (PySem.F.args_dict_iter_1 _))
 unfold Builtin.«dict.__iter__» Builtin.Dict.dictSlotNone
 refine wpAny_bind (wpAny_bind (wpAny_notOrdered_dict ty (by show wpAny _ _ (pure (Value.ref d)) _ _ s; refine wpAny_pure ?_; show wpAny _ _ (Builtin.Dict.showsAll d >>= _) _ _ s; unfold Builtin.Dict.showsAll; rw [if_neg (by rw [hd]; exact Bool.false_ne_true)]; refine wpAny_bind (wpAny_pure ?_); refine wpAny_bind (wpAny_dictEntries e dt ?_); refine wpAny_bind (wpAny_dictEpoch e dt ?_); refine wpAny_bind (wpAny_newObj_type (wpAny_pure (EB _ rfl "dict_keyiterator" _ ⟨_,Heap.get?_push_size _ rfl,rfl⟩ PySem.F.slot_dict_keyiterator_next.lookup ?_))); simpa [rawInt] using q)))
theorem yd {Q:Option Value→Shared→Prop}(hit:s.heap.IsKeyIter it d i es.size ep)(r:RawD s.heap d es ep)(hi:i < es.size)
  (q:∀ h',h'.IsKeyIter it d (i+1) es.size ep→Heap.SameBut it s.heap h'→Q (some es[i].key) { s with heap:=h' }):wpAny (model P w) A (pyNext (.ref it)) Q E s:=by
 have it':=hit
 refine cw (it') fun io e1 c1 d1=> ?_
 refine cw (r) fun o e x dt=> ?_
 unfold pyNext
 have own:Builtin.Dict_items.ownsTuple "dict_keyiterator" =false:=by decide
 refine wpAny_bind (wpAny_attempt (wpAny_callSpecial?_slot (name:=Str.ofString "__next__") hit.typeIs PySem.F.slot_dict_keyiterator_next (wpAny_call_entry PySem.F.slot_dict_keyiterator_next hit.typeIs PySem.F.entry_dict_keyiterator_next ?_ (PySem.F.args_dict_keyiterator_next_1 _))))
 refine wpAny_bind (wpAny_pure (wpAny_bind (wpAny_bind ?_)))
 first | refine wpAny_bind (wpAny_typeNameOfWhole_keyiter hit.typeIs (wpAny_pure (wpAny_bind (wpAny_fieldsOf e1 d1 ?_)))) | refine wpAny_bind (wpAny_typeNameOf_keyiter hit.typeIs (wpAny_pure (wpAny_bind (wpAny_fieldsOf e1 d1 ?_))))
 simp only [own,Bool.false_eq_true,if_false]; show wpAny _ _ (if (Value.ref d == Value.none)=true then _ else _) _ _ s
 rw [if_neg (show ¬ ((Value.ref d == Value.none)=true) from Bool.false_ne_true)]; refine wpAny_bind (wpAny_pure (wpAny_bind (wpAny_dictEntries e dt ?_))); rw [if_neg (by simp)]
 refine wpAny_bind (wpAny_pure (wpAny_bind (wpAny_dictEpoch e dt ?_))); rw [if_neg (by simp)]; refine wpAny_pure ?_
 simp only [show ¬ ((i:Int) < 0) from by omega,if_false,Int.toNat_natCast,Array.getElem?_eq_getElem hi]; refine wpAny_bind ?_
 first | refine wpAny_bind (wpAny_typeNameOfWhole_keyiter hit.typeIs (wpAny_pure (wpAny_bind (wpAny_isOneOf_keyiter hit.typeIs ?_)))) | refine wpAny_bind (wpAny_typeNameOf_keyiter hit.typeIs (wpAny_pure (wpAny_bind (wpAny_isOneOf_keyiter hit.typeIs ?_))))
 show wpAny _ _ (setField (.ref it) 1 (rawInt ((i:Int)+1)) >>= _) _ _ s; refine wpAny_bind (wpAny_setField e1 d1 (by simp) ?_)
 have nx:(s.heap.update it (Obj.mapFields (·.setIfInBounds 1 (rawInt ((i:Int)+1))))).IsKeyIter it d (i+1) es.size ep:=(ik _ (Heap.get?_update_self _ e1 (Obj.isFreed_of_fields (Obj.data_mapFields d1 _))) ((Obj.cls_mapFields ..).trans c1) (by rw [Obj.data_mapFields d1]; simp [rawInt]))
 refine wpAny_bind (wpAny_holding (wpAny_bind (wpAny_isOneOf_keyiter (s:={ s with heap:=s.heap.update it (Obj.mapFields (·.setIfInBounds 1 (rawInt ((i:Int)+1)))) }) nx.typeIs ?_)))
 show wpAny _ _ (pure es[i].key) _ _ _; exact wpAny_pure (wpAny_pure ⟨_,rfl,wpAny_pure (q _ nx (Heap.SameBut.update ..))⟩)
theorem At {Q:Option Value→Shared→Prop}(hh:A.handled=none)(hit:s.heap.IsKeyIter it d i es.size ep)(r:RawD s.heap d es ep)(hi:es.size≤i)
  (q:∀ h',Heap.ExtBut it s.heap h'→Q none { s with heap:=h' }):wpAny (model P w) A (pyNext (.ref it)) Q E s:=by
 have it':=hit
 refine cw (it') fun io e1 c1 d1=> ?_
 refine cw (r) fun o e x dt=> ?_
 unfold pyNext
 have own:Builtin.Dict_items.ownsTuple "dict_keyiterator" =false:=by decide
 refine wpAny_bind (wpAny_attempt (wpAny_callSpecial?_slot (name:=Str.ofString "__next__") hit.typeIs PySem.F.slot_dict_keyiterator_next (wpAny_call_entry PySem.F.slot_dict_keyiterator_next hit.typeIs PySem.F.entry_dict_keyiterator_next ?_ (PySem.F.args_dict_keyiterator_next_1 _))))
 refine wpAny_bind (wpAny_pure (wpAny_bind (wpAny_bind ?_)))
 first | refine wpAny_bind (wpAny_typeNameOfWhole_keyiter hit.typeIs (wpAny_pure (wpAny_bind (wpAny_fieldsOf e1 d1 ?_)))) | refine wpAny_bind (wpAny_typeNameOf_keyiter hit.typeIs (wpAny_pure (wpAny_bind (wpAny_fieldsOf e1 d1 ?_))))
 simp only [own,Bool.false_eq_true,if_false]; show wpAny _ _ (if (Value.ref d == Value.none)=true then _ else _) _ _ s
 rw [if_neg (show ¬ ((Value.ref d == Value.none)=true) from Bool.false_ne_true)]; refine wpAny_bind (wpAny_pure (wpAny_bind (wpAny_dictEntries e dt ?_))); rw [if_neg (by simp)]
 refine wpAny_bind (wpAny_pure (wpAny_bind (wpAny_dictEpoch e dt ?_))); rw [if_neg (by simp)]; refine wpAny_pure ?_
 simp only [show ¬ ((i:Int) < 0) from by omega,if_false,Int.toNat_natCast,Array.getElem?_eq_none hi]; refine wpAny_bind ?_
 first | refine wpAny_bind (wpAny_typeNameOfWhole_keyiter hit.typeIs (wpAny_pure ?_)); show wpAny _ _ (setField (.ref it) 0 .none >>= _) _ _ s | refine wpAny_bind (wpAny_typeNameOf_keyiter hit.typeIs (wpAny_pure ?_)); show wpAny _ _ (setField (.ref it) 0 .none >>= _) _ _ s
 refine wpAny_bind (wpAny_setField e1 d1 (by simp) ?_); show wpAny _ _ (newExc (.type "StopIteration") [] >>= _) _ _ _
 refine wpAny_bind ?_; simp only [newExc,newTuple]; refine wpAny_bind (wpAny_newObj_type ?_ (by size_fits)); refine wpAny_bind (m:=firstArgMember _ _) (wpAny_of_eq (a:=Value.none) (by first | rfl | (simp only [firstArgMember]; rfl)) ?_)
 refine wpAny_newObj_type ?_ (by size_fits); simp only [raiseNew]; refine wpAny_bind (wpAny_handled ?_); rw [show A.in1.handled=none from hh]
 refine wpAny_bind (wpAny_pure (wpAny_throw ?_)); refine wpAny_bind (wpAny_isInstance (T:= "StopIteration") (b:=true) ⟨_,Heap.get?_push_size _ rfl,rfl⟩ isSubtype_stop ?_); exact wpAny_pure (q _ (((Heap.SameBut.update ..).extBut.push _).push _))
end
section
variable{P:Program}{w:World}{A:Around}{E:Value→Shared→Prop}{s:Shared}{d:Addr}{es:Array DictEntry}{ep:Nat}
theorem Au {Q:Value→Shared→Prop}(hd:(d == sysModules)=false)(r:RawD s.heap d es ep)(hf:(es.size:Int) < 2 ^ 63)(q:∀ t t',Q (.int es.size t) { s with toks:=t' }):wpAny (model P w) A (call (.builtin "len") [.ref d]) Q E s:=by
 have ty:=r.ty
 refine cw (r) fun o e x dt=> ?_
 refine Calls.call_function_entry kind_len plain_len entry_len (args_len1 _) ?_; unfold Builtin.«len»; refine wpAny_bind (m:=oneArg "len" _) (wpAny_pure ?_)
 refine wpAny_bind (m:=callSpecial? (.ref d) (Str.ofString "__len__")) (wpAny_callSpecial?_slot (name:=Str.ofString "__len__") ty PySem.F.slot_dict_len (wpAny_call_entry PySem.F.slot_dict_len ty PySem.F.entry_dict_len ?_ (PySem.F.args_dict_len_1 _)))
 unfold Builtin.«dict.__len__»; refine wpAny_bind ?_; unfold Builtin.Dict.dictSlotNone; refine wpAny_bind (wpAny_notOrdered_dict ty ?_); show wpAny _ _ (pure (Value.ref d)) _ _ s; refine wpAny_pure ?_
 show wpAny _ _ (dictSize d >>= _) _ _ s; unfold dictSize; refine wpAny_bind (wpAny_bind (wpAny_dictEntries e dt (wpAny_pure ?_))); show wpAny _ _ (Builtin.Dict.pendingCount d >>= _) _ _ s
 refine wpAny_bind (wpAny_pendingCount_other hd ?_); refine wpAny_ret_mkInt ?_; rw [show ((es.size:Int)+((0:Nat):Int))=(es.size:Int) from by simp]; refine wpAny_bind (wpAny_holding (wpAny_pure ?_)); refine wpAny_bind (wpAny_letGo ?_)
 show wpAny _ _ (if ((es.size:Nat):Int) < 0 then _ else _) _ _ _; rw [if_neg (by omega)]
 show wpAny _ _ (if ((es.size:Nat):Int) ≥ 2 ^ 63 then _ else _) _ _ _; rw [if_neg (by omega)]; exact wpAny_bind (wpAny_mkInt (wpAny_pure ⟨_,rfl,q _ _⟩))
end
end L2
namespace L2
open PySem PySem.Spec PyProof.Rows
noncomputable def HA (a:Addr)(o:Obj)(kvs:List (List bu×V)):It:=
 ⟨fun i H=>H a=some (.frz o (.dT kvs))∧i < kvs.length,fun i H x H'=>H'=H∧∃ b k,(kvs.map (·.1))[i]?=some k∧x= .ref b∧H b=some (.tup (k.map kV)),fun i H=>H a=some (.frz o (.dT kvs))∧kvs.length≤i⟩
theorem Paired.at2 {α β:Type}{R:α→β→Prop}:∀ {l:List α} {m:List β},Paired R l m→l.length=m.length∧∀ (i:Nat) (h1:i < l.length) (h2:i < m.length),R l[i] m[i]
 | _,_,.nil=>⟨rfl,fun i h=>by cases h⟩
 | _,_,.cons r t=>by
  obtain ⟨a,b⟩:=Paired.at2 t
  refine ⟨by rw [List.length_cons,List.length_cons,a],fun i h1 h2=> ?_⟩
  cases i with
  | zero=>exact r
  | succ i=>exact b i (by simpa using h1) (by simpa using h2)
theorem pS {X:Cx}{pins:List (Addr×Obj)}{σ:St}{H:Hp}{s:Shared}{a:Addr}{o:Obj}{kvs:List (List bu×V)}(I:Inv X pins σ H s)(h:H a=some (.frz o (.dT kvs))) :
  ∃ es ep,o.data= .dict es ep∧RawD s.heap a es ep∧es.size=kvs.length∧(a == sysModules)=false∧kvs.length≤sizeLine∧∀ (i:Nat) (h1:i < kvs.length) (h2:i < es.size),∃ b,es[i].key= .ref b∧H b=some (.tup (kvs[i].1.map kV)):=by
 refine Hy ((show ObjOk X.prog X.w H s.heap a (.frz o (.dT kvs)) from I.hok a _ h)) fun ho z hd xs pr o' es ep ho' ex dt he nd=> ?_
 rw [ho] at ho'
 cases ho'
 obtain ⟨hl,at'⟩:=Paired.at2 pr
 have hsz:es.size=kvs.length:=by rw [← Array.length_toList,he,List.length_map,hl]
 refine (EU es ep dt (ik o ho ex dt) hsz hd z (fun i h1 h2=> ?_))
 have h3:i < xs.length:=by omega
 have e1:es[i]=entryOfKey (tupleKind (bU X.prog X.w)) xs[i]:=by
  have:es.toList[i]?=some (entryOfKey (tupleKind (bU X.prog X.w)) xs[i]):=by rw [he,List.getElem?_map,ij h3]; rfl
  rw [Array.getElem?_toList,Array.getElem?_eq_getElem h2] at this
  exact Option.some.inj this
 exact ⟨xs[i].2.1,by rw [e1]; rfl,(at' i h1 h3).2.1⟩
theorem wl {P:Program}{w:World}{K:W.Frag}{tg:Expr}(a it:Addr)(o:Obj)(kvs:List (List bu×V)):Turn P w K tg (HA a o kvs) [it] it (fun i h=>∃ es ep,o.data= .dict es ep∧h.IsKeyIter it a i es.size ep) where
 mem:=by simp
 obj:=fun i h ⟨es,ep,_,st⟩ b p=>by
  have e:b=it:=by simpa using p
  subst e
  refine cw (st) fun o e c d=> ?_
  exact ⟨o,e,fun v z=>by rw [d] at z; cases z⟩
 keep:=fun i h h' ⟨es,ep,e,o,e1,c,d⟩ k=>⟨es,ep,e,o,k it (by simp) o e1,c,d⟩
 item:=by
  rintro X hP hw hK hc i pins s σ H E I hf ⟨es,ep,ed,st⟩ ⟨hg,hi⟩
  subst hP hw hK
  refine DG (pS I hg) fun es' ep' dt rw' hsz hd hz at'=> ?_
  rw [ed] at dt
  cases dt
  refine nW (hf it (by simp)) fun f0 f1 f2 f3 f4 f5=> ?_
  have hi':i < es.size:=by omega
  obtain ⟨b,p,hH⟩:=at' i hi hi'
  refine yd st rw' hi' fun h' st' sb=> ?_
  have I1:Inv X pins σ H { s with heap:=h' }:=I.turned (t':=s.toks) (fun b o p e=>(sb.2 b p).trans e) f0 f1 f3 f4 f5
  refine cw (id st') fun o e c d=> ?_
  rw [p]
  exact ⟨_,rfl,uv (s:={ s with heap:=h' }) e c d (by decide) (sK (.ref b) H I1 rfl (zF rfl b (kvs[i].1) (by rw [List.getElem?_map,ij hi]; rfl) rfl hH) (kQ es ep ed st') (fun b p=>(hf b p).1))⟩
 done:=by
  rintro X hP hw hK hc i pins s σ H E I hf ⟨es,ep,ed,st⟩ ⟨hg,hi⟩
  subst hP hw hK
  refine DG (pS I hg) fun es' ep' dt rw' hsz hd hz at'=> ?_
  rw [ed] at dt
  cases dt
  refine nW (hf it (by simp)) fun f0 f1 f2 f3 f4 f5=> ?_
  exact At (I.ok.hd hc) st rw' (by omega) fun h' eb=>⟨rfl,I.turned (t':=s.toks) (fun b o p e=>eb b o p e) f0 f1 f3 f4 f5⟩
 self:=fun _ _ _ _ _ ⟨es,ep,_,st⟩ h=>wpAny_pyIter_keyiter st h
noncomputable def kD:bu→D
 | .inl i=> .int i
 | .inr x=> .str x
noncomputable def xt (k:List bu):D:= .tup (k.map kD)
theorem rL {K:W.Frag}{G:Hp}:∀ (k:List bu),RepL K G (k.map kD) (k.map kV)
 | []=> .nil
 | k :: r=> .cons (by cases k with | inl i=>exact rep_int.mpr rfl | inr x=>exact rep_str.mpr rfl) (rL r)
theorem yu {K:W.Frag}{G:Hp}{a:Addr}{o:Obj}{kvs:List (List bu×V)}(h:G a=some (.frz o (.dT kvs))):yR K (HA a o kvs) ((kvs.map (·.1)).map xt) G:=by
 intro G2 H2 g1 g2 i
 refine ⟨fun d hd=> ?_,fun hl=>⟨g2 _ _ (g1 _ _ h),by simpa using hl⟩⟩
 rw [List.getElem?_map] at hd
 cases q:(kvs.map (·.1))[i]? with
 | none=>rw [q] at hd; cases hd
 | some k=>
  rw [q] at hd
  cases hd
  have hi:i < kvs.length:=by have:=(fG q).1; simpa using this
  refine ⟨⟨g2 _ _ (g1 _ _ h),hi⟩,fun x H' hZ151=> ?_⟩
  refine nY (hZ151) fun e b k' hk hx hH=> ?_
  subst e hx
  rw [q] at hk
  cases hk
  have gg:Same G2 (bg G2 b (.tup (k.map kV))):=fun c u e=>by
   by_cases hc:c=b
   ·subst hc
    have:=g2 _ _ e
    rw [hH] at this
    cases this
    exact ao
   ·rw [ai hc]; exact e
  refine ⟨bg G2 b (.tup (k.map kV)),⟨.refl _,gg,fun c u e=> ?_,fun c u e=> ?_⟩,rep_tup.mpr (du b _ rfl (.of ao) (rL k))⟩
  ·by_cases hc:c=b
   ·subst hc; rw [ao] at e; rw [← e]; exact hH
   ·rw [ai hc] at e; exact g2 c u e
  ·by_cases hc:c=b
   ·subst hc; rw [ao] at e; cases e; exact .inr (.inr ⟨k,rfl⟩)
   ·rw [ai hc] at e; exact .inl e
noncomputable def mQ:D→Res (List D)
 | .fdc ks _=> .ok (ks.map xt)
 | _=> .bad
section
variable{X:Cx}{E:XK}{μ:List Nat}{n:Nat}{tg:Expr}
theorem rD {e:Expr}{f:DS→Res D}(h:PD X E e f):PI X tg e (tDI X.K E (fun ρ=>(f ρ).bind mQ)):=by
 intro pins s σ H R I hZ25
 obtain ⟨G,ρ,hs,hro,ho,k⟩:=hZ25
 refine aW (dR h pins s σ H (fun v H1=>∃ a o M G1,v= .ref a∧Ext G H G1 H1∧G1 a=some (.frz o (.dT M))∧((f ρ).bind mQ)= .ok ((M.map (·.1)).map xt)) I ⟨G,ρ,hs,hro,ho.fst,fun d e v G1 H1 x1 p1=> ?_⟩) fun v s1 hZ152=> ?_
 ·have kk:=ho.snd e x1.hh
  cases d with
  | fdc ks l=>
   rw [rep_fdc] at p1
   refine jd (p1) fun a o M hS149 ga hk rl=> ?_; subst hS149
   exact (mN a o M G1 rfl x1 ga (by rw [e,ar,← hk]; rfl))
  | _=>exact kk.elim
 ·obtain ⟨x,H1,I1,r1,a,o,M,G1,ex,x1,ga,ek⟩:=hZ152
  subst ex
  cases r1
  refine DG (pS I1 (x1.gh _ _ ga)) fun es ep dt rw' hsz hd hz at'=> ?_
  refine yc hd rw' ?_
  exact ⟨s1.heap.objs.size,[s1.heap.objs.size],_,_,H1,rfl,I1.kept (t':=s1.toks) fun b o e=>Heap.get?_push_of_some _ e,wl a _ o M,(EC es ep dt _ (Heap.get?_push_size _ rfl) rfl rfl),fun b hb=>by
   have e:b=s1.heap.objs.size:=by simpa using hb
   subst e
   exact I1.fpOk (Nat.le_refl _) (I1.hok.fresh (Nat.le_refl _)),k _ ek _ G1 H1 x1 (yu ga)⟩
noncomputable def xz:List D→Res D
 | [.dct ks _]=> .ok (.int ks.length)
 | [.fdc ks _]=> .ok (.int ks.length)
 | _=> .bad
theorem vd:eD X (.builtin "len") (fun xs H Q=>∃ a kvs,xs=[V.ref a]∧Rd H a (.dT kvs)∧Q (.int kvs.length) H):=by
 intro pins s σ H xs us Q I r h
 refine cps fun PP kP=> ?_
 refine bp (h) fun a kvs hS150 ha q=> ?_; subst hS150
 obtain ⟨u,rfl,ru⟩:=kz r
 refine kP ?_; clear kP PP
 cases ru
 refine DC (yf I.hok ha) fun z hd xs pr o es ep ho ex dt he nd=> ?_
 obtain ⟨hl,_⟩:=Paired.at2 pr
 have hsz:es.size=kvs.length:=by rw [← Array.length_toList,he,List.length_map,hl]
 have hz:=sizeLine_eq
 exact Au hd (ik o ho ex dt) (by omega) fun t t'=>⟨.int kvs.length,H,I.tok t',⟨t,by rw [hsz]⟩,q⟩
theorem y3 {K:W.Frag}:AX K E (fun xs H Q=>∃ a kvs,xs=[V.ref a]∧Rd H a (.dT kvs)∧Q (.int kvs.length) H) xz:=by
 intro G H vs ds Q hs rl ok k
 unfold xz at ok k
 split at ok
 ·refine bp (rl.inv) fun v r hS151 rx r0=> ?_; subst hS151
  rw [r0.inv0]
  rw [rep_dct] at rx
  refine nZ (rx) fun a kvs hS152 rd hk _=> ?_; subst hS152
  subst hk
  exact (du a kvs rfl (hs.rd rd) (by have:=k _ _ G H rfl (.refl hs) (rep_int.mpr rfl); simpa using this))
 ·refine bp (rl.inv) fun v r hS153 rx r0=> ?_; subst hS153
  rw [r0.inv0]
  rw [rep_fdc] at rx
  refine jd (rx) fun a o kvs hS154 rd hk _=> ?_; subst hS154
  subst hk
  exact (du a kvs rfl (hs.rd (.inr ⟨o,rd⟩)) (by have:=k _ _ G H rfl (.refl hs) (rep_int.mpr rfl); simpa using this))
 ·exact ok.elim
theorem zY {e:Expr}{p pos:Pos}{f:DS→Res D}(hm:X.mg "len" =none)(h:PD X E e f)(hg:Gl X "len" :=by rfl)(he:starEach [e] X.env=(false,eval e X.env) :: starEach [] X.env:=by rfl):PD X E (.Call (.Name "len" p) [e] [] pos) (fun ρ=>(f ρ).bind fun a=>xz [a]):=
 uF ▸ iP (X:=X) (E:=E) (p:=p) (pos:=pos) vd y3 hg hm PySem.boot_len (aa h ae he) (by decide) (by decide) he rfl
noncomputable def zA:D→Res D
 | .dct ks l=> .ok (.fdc ks l)
 | _=> .bad
theorem Inv.frz {pins:List (Addr×Obj)}{σ:St}{H:Hp}{s:Shared}{a:Addr}{o:Obj}{kvs:List (List bu×V)}(I:Inv X pins σ H s)(h:H a=some (.dT kvs))(ho:s.heap.get? a=some o):Inv X pins σ (bg H a (.frz o (.dT kvs))) s:=by
 have ne:∀ {b:Addr} {u:HO},H b=some u→u≠ .dT kvs→b≠a:=fun e hu z=>by subst z; rw [h] at e; cases e; exact hu rfl
 refine I.un (t':=s.toks) ⟨fun b u e _ _ _=>e,fun b u e _ _ _=>⟨u.slots,e⟩,fun b u _ n _=> ?_,fun b u e _=>⟨u,e⟩,fun b xs e=> ?_,fun b u v e=> ?_,fun b ps e=> ?_⟩ fun b u e=> ?_
 ·rw [ai (fun z=>by subst z; rw [h] at n; cases n)]; exact n
 ·rw [ai (ne e (fun z=>by cases z))]; exact e
 ·rw [ai (ne e (fun z=>by cases z))]; exact e
 ·exact ⟨#[],by rw [ai (ne e (fun z=>by cases z)),e]; simp⟩
 ·have st:∀ {c:Addr} {v:HO},ObjOk X.prog X.w H s.heap c v→ObjOk X.prog X.w (bg H a (.frz o (.dT kvs))) s.heap c v:=fun x=>x.stay (fun _ _ _ e=>e) (fun b e=>by rw [ai (ne e (fun z=>by cases z))]; exact e) fun b xs e=>by rw [ai (ne e (fun z=>by cases z))]; exact e
  by_cases hb:b=a
  ·subst hb
   rw [ao] at e
   cases e
   exact ⟨ho,st (I.hok _ _ h)⟩
  ·rw [ai hb] at e
   exact st (I.hok b u e)
theorem PN.pdF {e:Expr}{f:DS→Res D}(h:PN X E (n+1) e f):PD X E e (fun ρ=>(f ρ).bind zA):=by
 intro pins s σ G H ρ I hs hr ho
 refine aW (h pins s σ G H ρ I hs hr ho.fst) fun u s' hZ153=> ?_
 obtain ⟨d,e,v,G',H',S,I',rv,x,o,w⟩:=hZ153
 have kk:=ho.snd e x.hh
 cases d with
 | dct ks l=>
  refine cps fun PP kP=> ?_
  refine iV (o) fun a M T hS155 ha hk hS156 os=> ?_; subst hS155; subst hS156
  refine tX ((show ObjOk X.prog X.w H' s'.heap a (.dT M) from I'.hok a _ ha)) fun _ _ _ _ ob _ _ hob _=> ?_
  obtain ⟨haT,ndT⟩:=List.nodup_cons.mp w.1
  refine kP ?_; clear kP PP
  have wa:=w.2 a (List.mem_cons_self ..)
  have wT:∀ b∈T,H b=none∧G' b=none:=fun b hb=>w.2 b (cI hb)
  have dec:∀ b,Decidable (b∈T):=fun b=>Classical.propDecidable _
  have g3:∀ b,(fun b=>if b=a then some (HO.frz ob (.dT M)) else if b∈T then H' b else G' b:Hp) b=if b=a then some (HO.frz ob (.dT M)) else if b∈T then H' b else G' b:=fun _=>rfl
  generalize hG3:(fun b=>if b=a then some (HO.frz ob (.dT M)) else if b∈T then H' b else G' b:Hp)=G3 at g3
  have ga:G3 a=some (.frz ob (.dT M)):=by rw [g3,if_pos rfl]
  have gT:∀ b∈T,G3 b=H' b:=fun b hb=>by rw [g3,if_neg (fun (z:b=a)=>haT (z ▸ hb)),if_pos hb]
  have gO:∀ b,b≠a→b∉T→G3 b=G' b:=fun b h1 h2=>by rw [g3,if_neg h1,if_neg h2]
  have sg:Same G' G3:=fun b u e=>by
   rw [gO b (fun z=>by subst z; rw [wa.2] at e; cases e) (fun z=>by rw [(wT b z).2] at e; cases e)]; exact e
  refine ⟨.fdc ks l,aq e rfl,.ref a,G3,bg H' a (.frz ob (.dT M)),I'.frz ha hob,rv,⟨fun b u e=> ?_,x.gg.trans sg,fun b u e=> ?_,fun b u e=> ?_⟩,rep_fdc.mpr (jh a ob M rfl ga hk (os.rep fun d v A hA ow=>ow.rep sg fun b hb u e=>by rw [gT b (hA b hb)]; exact e))⟩
  ·rw [ai (fun z=>by subst z; rw [wa.1] at e; cases e)]; exact x.hh b u e
  ·by_cases h1:b=a
   ·subst h1; rw [ga] at e; rw [ao]; exact e
   ·rw [ai h1]
    by_cases h2:b∈T
    ·rw [gT b h2] at e; exact e
    ·rw [gO b h1 h2] at e; exact x.gh b u e
  ·by_cases h1:b=a
   ·subst h1; exact .inr (.inl wa.1)
   ·by_cases h2:b∈T
    ·exact .inr (.inl (wT b h2).1)
    ·rw [gO b h1 h2] at e; exact x.nw b u e
 | _=>exact kk.elim
noncomputable def yx (ns:List Int):List Int:=ns.mergeSort (fun a b=>decide (a≤b))
theorem ld (ns:List Int):(yx ns).Perm ns:=List.mergeSort_perm ..
theorem rS (ns:List Int):(yx ns).Pairwise (· ≤ ·):=by
 have h:=List.pairwise_mergeSort (le:=fun a b:Int=>decide (a≤b)) (fun a b c h1 h2=>by simp at *; omega) (fun a b=>by simp; omega) ns
 exact h.imp fun {a b} h=>by simpa using h
theorem ma:∀ {a b:List Int},a.Perm b→a.Pairwise (· ≤ ·)→b.Pairwise (· ≤ ·)→a=b
 | [],b,p,_,_=>(List.nil_perm.mp p).symm
 | x :: a,[],p,_,_=>absurd p.length_eq (by simp)
 | x :: a,y :: b,p,h1,h2=>by
  obtain ⟨i1,i2⟩:=List.pairwise_cons.mp h1
  obtain ⟨j1,j2⟩:=List.pairwise_cons.mp h2
  have e:x=y:=by
   have hx:=p.mem_iff.mp (List.mem_cons_self (a:=x) (l:=a))
   have hy:=p.mem_iff.mpr (List.mem_cons_self (a:=y) (l:=b))
   rcases List.mem_cons.mp hx with z | z
   ·exact z
   ·rcases List.mem_cons.mp hy with z' | z'
    ·exact z'.symm
    ·have:=j1 x z; have:=i1 y z'; omega
  subst e
  rw [ma (List.perm_cons x |>.mp p) i2 j2]
theorem r7:∀ {us:List Value} {ns:List Int},IntsAre us ns→Vals (ns.map V.int) us
 | _,_,.nil=> .nil
 | _,_,.cons n t h=> .cons ⟨t,rfl⟩ (r7 h)
noncomputable def lb:List D→Res D
 | [.lst l]=>(match allInts l with | some ns=>if ns.length < 64 then .ok (.lst ((yx ns).map D.int)) else .bad | none=> .bad)
 | _=> .bad
theorem sv:eD X (.builtin "sorted") (fun xs H Q=>∃ p ns,xs=[.ref p]∧gs X.K H p (ns.map V.int)∧ns.length < 64∧∀ l,H l=none→Q (.ref l) (bg H l (.lst ((yx ns).map V.int)))):=by
 intro pins s σ H xs us Q I r h
 refine cps fun PP kP=> ?_
 refine nZ (h) fun p ns hS157 sq h64 q=> ?_; subst hS157
 obtain ⟨u,rfl,ru⟩:=kz r
 refine kP ?_; clear kP PP
 cases (show u= .ref p from ru)
 refine cw (I.list sq) fun its rv pl hz=> ?_
 have hil:=rv.length
 rw [List.length_map] at hil
 refine sorted_ints pl.isList (gQ rv) (by omega) fun out ns' a1 a2 a3=> ?_
 have e:ns'=yx ns:=ma (a2.trans (ld ns).symm) a3 (rS ns)
 subst e
 have hl:=(ld ns).length_eq
 have key:=jD (vs:=its) (out:=out.toList) I (r7 a1) (by rw [List.length_map,hl]; have:=sizeLine_eq; omega) q
 rw [Array.toArray_toList] at key
 exact key
theorem x6 {e:Expr}{p pos:Pos}{f:DS→Res D}(hm:X.mg "sorted" =none)(h:PD X E e f)(hg:Gl X "sorted" :=by rfl)(he:starEach [e] X.env=(false,eval e X.env) :: starEach [] X.env:=by rfl):PD X E (.Call (.Name "sorted" p) [e] [] pos) (fun ρ=>(f ρ).bind fun a=>lb [a]):=by
 refine uF ▸ iP (X:=X) (E:=E) (p:=p) (pos:=pos) sv ?_ hg hm boot_sorted (aa h ae he) (by decide) (by decide) he rfl
 intro G H vs ds Q hs rl ok k
 unfold lb at ok k
 split at ok
 ·rename_i l
  obtain ⟨v,r,rfl,rx,r0⟩:=rl.inv
  rw [r0.inv0]
  dsimp only at ok k
  cases q:allInts l with
  | none=>rw [q] at ok; exact ok.elim
  | some ns=>
   rw [q] at ok k
   dsimp only at ok k
   by_cases hc:ns.length < 64
   ·rw [if_pos hc] at k
    have el:=gE q
    refine cps fun PP kP=> ?_
    subst el
    rw [rep_lst] at rx
    obtain ⟨a,xs,rfl,sq,rx⟩:=rx
    refine kP ?_; clear kP PP
    have ex:=rx.ints
    subst ex
    exact ⟨a,ns,rfl,hs.seq sq.sq,hc,fun l hl=>k _ _ _ _ rfl (.new hs hl _) (rep_lst.mpr ⟨l,_,rfl,.of ao,.of_ints _⟩)⟩
   ·rw [if_neg hc] at ok; exact ok.elim
 ·exact ok.elim
end
noncomputable abbrev sD (f:DS→Res D):DS→Res (List D):=fun ρ=>(f ρ).bind mQ
noncomputable abbrev Ga (f:DS→Res D):DS→Res D:=fun ρ=>(f ρ).bind zA
noncomputable def ng (j i:Nat)(l r:List D)(ρ:DS):D→Out
 | .int k=>(match q_ r.length k with
  | some m=>(match r[m]? with
   | some x=>if aL l.length=true∧aL r.length=true then .nx ((ρ.set i (some (.lst (r.eraseIdx m)))).set j (some (.lst (l ++ [x])))) else .bad
   | none=> .bad)
  | none=> .bad)
 | _=> .bad
noncomputable def gG (j i:Nat)(fi:DS→Res D):DS→Out:=fun ρ=>match ρ[j]?,ρ[i]? with
 | some (some (.lst l)),some (some (.lst r))=>(fi ρ).out (ng j i l r ρ)
 | _,_=> .bad
section
variable{X:Cx}{E:XK}{μ:List Nat}{r:Nat}
theorem v9 {j i:Nat}{x y:Str}{e:Expr}{px py apos cpos apos2 cpos2 pos:Pos}{fi:DS→Res D}(hji:i≠j)(hm:μ.getD j 0=1)(hm2:μ.getD i 0=1)(hN:X.N[j]?=some x)(hN2:X.N[i]?=some y)(hv:t9 X.env.scope x)(hv2:t9 X.env.scope y)(hi:PD X E e fi)
  (hd:(x == ("__debug__" :Str))=false:=by decide) (hcd:(x == ("__classdict__" :Str))=false:=by decide)
  (hd2:(y == ("__debug__" :Str))=false:=by decide) (hcd2:(y == ("__classdict__" :Str))=false:=by decide)
  (hs:starEach [e] X.env=(false,eval e X.env) :: starEach [] X.env:=by rfl)
  (hs2:starEach [.Call (.Attribute (.Name y py) "pop" apos2) [e] [] cpos2] X.env=(false,eval (.Call (.Attribute (.Name y py) "pop" apos2) [e] [] cpos2) X.env) :: starEach [] X.env:=by rfl)
  (hbase:attributeBase (.Name x px) "append" X.env (eval (.Name x px) X.env)=eval (.Name x px) X.env:=by rfl)
  (hbase2:attributeBase (.Name y py) "pop" X.env (eval (.Name y py) X.env)=eval (.Name y py) X.env:=by rfl)
  (hfew:((backTo cpos (starEach [.Call (.Attribute (.Name y py) "pop" apos2) [e] [] cpos2] X.env)).all (fun x=> !x.1) && (backToKw cpos (keywordEach [] X.env)).all (fun x=>x.1.isSome) && decide (([Expr.Call (.Attribute (.Name y py) "pop" apos2) [e] [] cpos2].length+([]:List Keyword).length+if ([]:List Keyword).isEmpty=true then 0 else 1) < 30))=true:=by rfl)
  (hfew2:((backTo cpos2 (starEach [e] X.env)).all (fun x=> !x.1) && (backToKw cpos2 (keywordEach [] X.env)).all (fun x=>x.1.isSome) && decide (([e].length+([]:List Keyword).length+if ([]:List Keyword).isEmpty=true then 0 else 1) < 30))=true:=by rfl)
  (hline:(apos.endLine == cpos.line)=true:=by rfl) (hline2:(apos2.endLine == cpos2.line)=true:=by rfl)
  (hsw:swapsWith (.Call (.Attribute (.Name x px) "append" apos) [.Call (.Attribute (.Name y py) "pop" apos2) [e] [] cpos2] [] cpos) none pos.line X.env=pure false:=by rfl) :
  lJ X E μ r (.Expr (.Call (.Attribute (.Name x px) "append" apos) [.Call (.Attribute (.Name y py) "pop" apos2) [e] [] cpos2] [] cpos) pos) (gG j i fi):=by
 intro pins s σ Ge B G H o fp I R ho
 have hq:=ly (apos:=apos2) (cpos:=cpos2) (r:=tE) PySem.F.plainAttrs_list PySem.F.slot_list_pop PySem.F.type_list_pop (show yP X "list.pop" tE from xH) (eY (pos:=py) hN2 hv2 hd2 hcd2) (df (dR hi) fV hs) hbase2 hfew2 hline2 hs rfl
 have hp:=ly (apos:=apos) (cpos:=cpos) (r:=dk) PySem.F.plainAttrs_list PySem.F.slot_list_append PySem.F.type_list_append (show yP X "list.append" dk from gn) (eY (pos:=px) hN hv hd hcd) (df hq fV hs2) hbase hfew hline hs2 rfl
 have hslot:∃ l k,o[j]?=some (some (.lst l))∧o[i]?=some (some (.lst k)):=by
  unfold gG at ho
  split at ho
  ·rename_i l k q1 q2; exact (kQ l k q1 q2)
  ·exact ho.elim
 refine lh (hslot) fun l k hr hr2=> ?_
 have eo:gG j i fi o=(fi o).out (ng j i l k o):=by
  unfold gG
  rw [hr,hr2]
 rw [eo] at ho ⊢
 refine jd (R.top (n:=0) hr hm) fun a xs T h1 h2 h3 h4=> ?_
 refine jd (R.top (n:=0) hr2 hm2) fun b ys U k1 k2 k3 k4=> ?_
 refine aW (fJ hp hsw pins s σ H { nx:=fun σ' H'=>∃ P G' fp',(fi o).out (ng j i l k o)= .nx P∧σ'=σ∧Rw X.K μ Ge B G' H' σ P fp'∧Same G G',bk:=fun _ _=>False,ct:=fun _ _=>False,rt:=fun _ _=>False } I ?_) fun fl s1 J=> ?_
 ·refine (ED _ h1 (.inl ⟨rfl,xs,.inl (.inl h2)⟩) _ k1 (.inl ⟨rfl,ys,.inl (.inl k2)⟩) ⟨nV fp G H,o,R.vh,R.ro,ho.res.le R.bh,fun di ei vi G1 H1 x1 ri=> ?_⟩)
  have L:=ho.res2 ei (Same.refl B)
  unfold ng at L
  split at L
  ·rename_i k0
   rw [rep_int] at ri
   subst ri
   cases hq:q_ k.length k0 with
   | none=>rw [hq] at L; exact L.elim
   | some m=>
    rw [hq] at L
    dsimp only at L
    cases hz:k[m]? with
    | none=>rw [hz] at L; exact L.elim
    | some z=>
     rw [hz] at L
     dsimp only at L
     by_cases hc:aL l.length=true∧aL k.length=true
     ·have e0:(fi o).out (ng j i l k o)= .nx ((o.set i (some (.lst (k.eraseIdx m)))).set j (some (.lst (l ++ [z])))):=by
       rw [bO ei]; unfold ng; dsimp only; rw [hq]; dsimp only; rw [hz]; exact if_pos hc
      have R1:=R.grow x1
      refine wu (R1.path (p:=[]) (n:=0) hm2 hr2 rfl) fun v1 b2 ys2 U2 p0 p1 p2 p3 p4 p5 p6 p7 p8 p9=> ?_
      rw [k1] at p0
      cases p0
      cases (show V.ref b2= .ref b from p1)
      rw [x1.hh _ _ k2] at p2
      cases p2
      refine cps fun PP kP=> ?_
      obtain ⟨eU,rl⟩:=p3.zero
      obtain ⟨w,hw,rw'⟩:=rl.get hz
      obtain ⟨fp2,R2⟩:=p9 (ys.eraseIdx m) (k.eraseIdx m) [] (.of0 (rl.erase m)) List.nodup_nil (fun c h=>by cases h)
      refine kP ?_; clear kP PP
      have hr3:(o.set i (some (ir [] (.lst k) (.lst (k.eraseIdx m)))))[j]?=some (some (.lst l)):=by rw [List.getElem?_set_ne hji]; exact hr
      refine wu (R2.path (p:=[]) (n:=0) hm hr3 rfl) fun v3 b3 ys3 U3 q0 q1 q2 q3 q4 q5 q6 q7 q8 q9=> ?_
      rw [h1] at q0
      cases q0
      cases (show V.ref b3= .ref a from q1)
      have hab:a≠b:=fun z=>hji (R.dj i j b (by rw [k3]; exact List.mem_cons_self) (by rw [h3,z]; exact List.mem_cons_self))
      rw [ai hab,x1.hh _ _ h2] at q2
      cases q2
      obtain ⟨eU3,rl3⟩:=q3.zero
      have rz:Rep X.K (nF (ot fp) G1) z w:=rw'
      obtain ⟨fp3,R3⟩:=q9 (xs ++ [w]) (l ++ [z]) [] (.of0 (rl3.append (.cons rz .nil))) List.nodup_nil (fun c h=>by cases h)
      have hml:m < ys.length:=(fG hw).1
      obtain ⟨b1,b2⟩:=xo hc.2 hq
      have hlen:=rl.length
      refine (EE b ys k0 m w rfl rfl (x1.hh _ _ k2) b1 b2 (by rw [← hlen]; exact (pY hq).1) hw ?_)
      exact (EF a xs w rfl rfl (by rw [ai hab]; exact x1.hh _ _ h2) (by rw [← rl3.length]; exact gd hc.1) _ _ fp3 e0 rfl R3 (R.gg x1))
     ·rw [if_neg hc] at L; exact L.elim
  ·exact L.elim
 ·cases fl with
  | next=>
   obtain ⟨σ',H',I',P,G',fp',e1,e2,R',sg⟩:=J
   subst e2
   exact ⟨P,_,G',H',fp',e1,I',R',sg⟩
  | brk=>obtain ⟨_,_,_,J⟩:=J; exact J.elim
  | cont=>obtain ⟨_,_,_,J⟩:=J; exact J.elim
  | ret u=>obtain ⟨_,_,_,_,_,J⟩:=J; exact J.elim
noncomputable def l_ (j i:Nat):DS→Out:=fun ρ=>match ρ[j]?,ρ[i]? with
 | some (some (.lst l)),some (some d)=>if aL l.length=true then .nx ((ρ.set i none).set j (some (.lst (l ++ [d])))) else .bad
 | _,_=> .bad
theorem xY {n j i:Nat}{x y:Str}{px py apos cpos pos:Pos}(hji:i≠j)(hm:μ.getD j 0=n+1)(hm2:μ.getD i 0=n)(hN:X.N[j]?=some x)(hN2:X.N[i]?=some y)(hv:t9 X.env.scope x)(hv2:t9 X.env.scope y)
  (hd:(x == ("__debug__" :Str))=false:=by decide) (hcd:(x == ("__classdict__" :Str))=false:=by decide)
  (hd2:(y == ("__debug__" :Str))=false:=by decide) (hcd2:(y == ("__classdict__" :Str))=false:=by decide)
  (hs:starEach [.Name y py] X.env=(false,eval (.Name y py) X.env) :: starEach [] X.env:=by rfl)
  (hbase:attributeBase (.Name x px) "append" X.env (eval (.Name x px) X.env)=eval (.Name x px) X.env:=by rfl)
  (hfew:((backTo cpos (starEach [.Name y py] X.env)).all (fun x=> !x.1) && (backToKw cpos (keywordEach [] X.env)).all (fun x=>x.1.isSome) && decide (([Expr.Name y py].length+([]:List Keyword).length+if ([]:List Keyword).isEmpty=true then 0 else 1) < 30))=true:=by rfl)
  (hline:(apos.endLine == cpos.line)=true:=by rfl)
  (hsw:swapsWith (.Call (.Attribute (.Name x px) "append" apos) [.Name y py] [] cpos) none pos.line X.env=pure false:=by rfl) :
  lJ X E μ r (.Expr (.Call (.Attribute (.Name x px) "append" apos) [.Name y py] [] cpos) pos) (l_ j i):=by
 intro pins s σ Ge B G H ρ fp I R ho
 have hp:=ly (apos:=apos) (cpos:=cpos) (r:=dk) PySem.F.plainAttrs_list PySem.F.slot_list_append PySem.F.type_list_append (show yP X "list.append" dk from gn) (eY (pos:=px) hN hv hd hcd) (df (eY (pos:=py) hN2 hv2 hd2 hcd2) fV hs) hbase hfew hline hs rfl
 have hslot:∃ l d,ρ[j]?=some (some (.lst l))∧ρ[i]?=some (some d):=by
  unfold l_ at ho
  split at ho
  ·rename_i l d q1 q2; exact (kQ l d q1 q2)
  ·exact ho.elim
 refine lh (hslot) fun l d hr hr2=> ?_
 have eo:l_ j i ρ=if aL l.length=true then .nx ((ρ.set i none).set j (some (.lst (l ++ [d])))) else .bad:=by
  unfold l_
  rw [hr,hr2]
 rw [eo] at ho ⊢
 by_cases hc:aL l.length=true
 ·rw [if_pos hc]
  refine jd (R.top hr hm) fun a xs T h1 h2 h3 h4=> ?_
  obtain ⟨v,k1,o⟩:=R.sl i d hr2
  rw [hm2] at o
  refine aW (fJ hp hsw pins s σ H { nx:=fun σ' H'=>σ'=σ∧H'=bg H a (.lst (xs ++ [v])),bk:=fun _ _=>False,ct:=fun _ _=>False,rt:=fun _ _=>False } I (EG _ h1 (.inl ⟨rfl,xs,.inl (.inl h2)⟩) _ k1 a xs v rfl rfl h2 (by rw [← h4.length]; exact gd hc) rfl rfl)) fun fl s1 J=> ?_
  cases fl with
  | next=>
   obtain ⟨σ',H',I',e1,e2⟩:=J
   subst e1 e2
   have R1:=R.forget (i:=i) (o:=some v)
   rw [rR k1] at R1
   exact ⟨_,_,_,_,_,rfl,I',R1.app1 (S:=fp i) hm h1 h2 ((if_neg (Ne.symm hji)).trans h3) h4 o (R.nd i) (fun c hcc=>⟨⟨R.gf i c hcc,R.ob i c hcc⟩,fun k hk=>by
    dsimp only at hk
    by_cases hki:k=i
    ·rw [if_pos hki] at hk; cases hk
    ·rw [if_neg hki] at hk; exact hki (R.dj k i c hk hcc)⟩),.refl _⟩
  | brk=>obtain ⟨_,_,_,J⟩:=J; exact J.elim
  | cont=>obtain ⟨_,_,_,J⟩:=J; exact J.elim
  | ret u=>obtain ⟨_,_,_,_,_,J⟩:=J; exact J.elim
 ·rw [if_neg hc] at ho; exact ho.elim
noncomputable def zM:D→Res D
 | .lst l=> .ok (.lst l)
 | _=> .bad
noncomputable abbrev G_ (f:DS→Res D)(lo hi:DS→Res (Option Int)):DS→Res D:=fun ρ=>(yO f lo hi ρ).bind zM
theorem x0 {e:Expr}{lo hi:Option Expr}{p2 pos:Pos}{f:DS→Res D}{fl fh:DS→Res (Option Int)}(he:PD X E e f)(hl:BA X E lo fl)(hh:BA X E hi fh):PN X E 1 (.Subscript e (.Slice lo hi none p2) pos) (G_ f fl fh):=by
 refine .tn (rC (pos:=pos) (p2:=p2) (sl_list.or yr) (dR he) hl hh) fun σ G H ρ Q hs hro ho k=>⟨G,ρ,hs,hro,ho.fst.fst,fun d e v G1 H1 x1 p1=> ?_⟩
 have k1:=ho.fst.snd e x1.hh
 refine ⟨G1,ρ,x1.gh,hro.mono x1.gg,k1.fst,fun l el G2 H2 x2=> ?_⟩
 have k2:=k1.snd el x2.hh
 refine ⟨G2,ρ,x2.gh,(hro.mono x1.gg).mono x2.gg,k2.fst,fun u eu G3 H3 x3=> ?_⟩
 have x13:=(x1.trans x2).trans x3
 have p3:=p1.mono (x2.gg.trans x3.gg)
 have e0:yO f fl fh ρ=fj l u d:=by unfold yO; rw [e,ar,el,ar,eu,ar]
 have k3:OkR E H ((fj l u d).bind zM):=by rw [← e0]; exact ho
 cases d with
 | lst ds=>
  rw [rep_lst] at p3
  refine bp (p3) fun a xs hS158 sq rl=> ?_; subst hS158
  refine .inl (du a xs rfl (x3.gh.seq sq.sq) (fun p hp=> ?_))
  obtain ⟨x,o,w⟩:=jG x13 hp (pB rl l u)
  exact k _ (by show (yO f fl fh ρ).bind zM=_; rw [e0]; rfl) _ _ _ _ x o w
 | tup ds=>
  unfold fj at k3
  dsimp only at k3
  split at k3 <;> exact k3.elim
 | _=>exact k3.elim
end
end L2
set_option maxHeartbeats 4000000
namespace K11
open PySem L2
noncomputable def top (i:Nat):Stmt:=PySem.Challenge.pw_haltline_k11_whole_turned_and_doubled.main.body.getD i (.Pass ⟨0,0,0,0⟩)
structure Txt (K:W.Frag)(mg:Str→Option Value)(CL:Addr):Prop where
 b_len:mg "len" =none
 b_list:mg "list" =none
 b_range:mg "range" =none
 b_min:mg "min" =none
 b_max:mg "max" =none
 b_tuple:mg "tuple" =none
 b_sorted:mg "sorted" =none
 b_enumerate:mg "enumerate" =none
 b_zip:mg "zip" =none
 mS:∃ t,mg "MOST_STRETCHES" =some (.int 5 t)
 mR:∃ t,mg "MOST_RUN" =some (.int 20 t)
 mC:∃ t,mg "MOST_CLEAR" =some (.int 5 t)
 mT:∃ t,mg "MOST_TRAINS" =some (.int 5 t)
 mY:∃ t,mg "MOST_READY" =some (.int 60 t)
 mgL:mg "Line" =some (.ref CL)
 cl:Cls K CL
 nM:NoAttr K CL "minutes"
 nG:NoAttr K CL "gap"
section
variable{P:Program}{w:World}{K:W.Frag}{mg:Str→Option Value}{base:Heap}{CL:Addr}
seal L2.PD L2.lI L2.va L2.PDW L2.BA L2.PN L2.PZ L2.lJ L2.t8 L2.Go L2.Gp
noncomputable abbrev hX:Stmt:=top 12
noncomputable abbrev gA:List Str:=["runs","clear","run"]
@[irreducible] noncomputable def dY (K:W.Frag)(CL:Addr):DS→Out:=(ay (lC (m5 (gL (kI 1) (c1 (ab 0) bf) (kI 5) sj sj)) bad1 nxt)
  (ay (im (sL (ab 0)) (bb 2) (lC (m5 (gL (kI 1) (ab 2) (kI 20) sj sj)) bad1 nxt))
  (lC (m5 (gL (kI 0) (ab 1) (kI 5) sj sj)) bad1 nxt)))
noncomputable def bm (K:W.Frag)(CL:Addr):List D→Res D:=iz 2 gA (dY K CL)
theorem sc_check_line:FnScope gA ["runs","clear"] (ag hX):=⟨rfl,rfl,rfl,by decide +kernel,rfl,by decide +kernel,by decide +kernel⟩
theorem gI (T:Txt K mg CL)(S:Sta K mg "check_line" hX ["runs","clear"]):Cal P w K mg base "check_line" 1 ["runs","clear"] (freshSp K 0 (bm K CL)):=by
 refine S.cal (k:=0) (r:=0) (F:=dY K CL) sc_check_line [] (by decide) rfl fun f cdv A outer s H E hr=> ?_
 unfold dY
 exact (ah (cC (fI (eB ii ii af (bw T.b_len (dv 0)) (rA T.mS))) (am cD) bH)
   (ah (i_ (j:=2) PassesOwn.leaving rfl sc_check_line.nd rfl (.inl rfl) rfl (tY (aU (dv 0)))
    (am (cC (fI (eB ii ii af (dv 2) (rA T.mR))) (am cD) bH)))
   (am (cC (fI (eB ii ii af (dv 1) (rA T.mC))) (am cD) bH))))
noncomputable abbrev tH:Stmt:=i5 (top 11) 0
noncomputable abbrev tI:Stmt:=i5 (top 11) 1
noncomputable abbrev qp:Stmt:=i5 (top 11) 2
noncomputable def gi (CL:Addr):List D→Res D
 | [d]=>(jY CL "minutes" d).bind fun x=>eQ [x]
 | _=> .bad
noncomputable def gU (CL:Addr):List D→Res D
 | [d]=>jY CL "gap" d
 | _=> .bad
noncomputable def jj (K:W.Frag)(CL:Addr):List D→Res D
 | [.lst l,.int c]=>(bm K CL [.lst l,.int c]).bind fun _=> .ok (.ins CL ["minutes","gap"] [.tup l,.int c])
 | _=> .bad
theorem xA:By CL (jj K CL):=by
 intro ds d h
 unfold jj at h
 split at h
 ·rename_i l c
  cases q:bm K CL [.lst l,.int c] with
  | ok x=>rw [q] at h; cases h; exact ⟨_,_,rfl⟩
  | exc x=>rw [q] at h; cases h
  | bad=>rw [q] at h; cases h
 ·cases h
theorem oJ {E:XK}{H:Hp}{ds:List D}(h:OkR E H (jj K CL ds)):∃ l c,ds=[.lst l,.int c]:=by
 unfold jj at h
 split at h
 ·exact ⟨_,_,rfl⟩
 ·exact h.elim
theorem zw (v u:V):g0 "gap" u (g0 "minutes" v [])=([("minutes",v),("gap",u)]:List (Str×V)):=by
 show (if ("minutes" :Str)= "gap" then [(("minutes" :Str),u)] else (("minutes" :Str),v) :: g0 "gap" u [])=([("minutes",v),("gap",u)]:List (Str×V))
 rw [if_neg (by decide +kernel)]
 rfl
theorem AB:FnScope ["self","runs","clear"] ["self","runs","clear"] (ag tH):=⟨rfl,rfl,rfl,by decide +kernel,rfl,by decide +kernel,by decide +kernel⟩
theorem zU {f:Addr}{fd:FuncData}(F:Fun K "__init__" "Line.__init__" tH f fd)(T:Txt K mg CL)(gI:Cal P w K mg base "check_line" 1 ["runs","clear"] (freshSp K 0 (bm K CL))):FnOk P w K mg base (CXF P w) 2 f fd ["self","runs","clear"] (pV K CL (jj K CL)):=by
 refine F.okF AB (fun vs H Q E h=> ?_) (fun cdv A outer s H vs Q E hr h=> ?_)
 ·refine cps fun PP kP=> ?_
  obtain ⟨p,dx,rest,ds,G,rfl,_,_,_,rl,ho,_⟩:=h
  obtain ⟨l,c,rfl⟩:=oJ ho
  refine kP ?_; clear kP PP
  have:=rl.length
  simp only [List.length_cons,List.length_nil] at this ⊢
  omega
 ·refine cps fun PP kP=> ?_
  obtain ⟨p,dx,rest,ds,G,rfl,hp,hs,gp,rl,ho,k⟩:=h
  obtain ⟨l,c,rfl⟩:=oJ ho
  refine kP ?_; clear kP PP
  ·refine cps fun PP kP=> ?_
   obtain ⟨v1,r1,rfl,p1,rl⟩:=rl.inv
   obtain ⟨v2,r2,rfl,p2,rl⟩:=rl.inv
   refine kP ?_; clear kP PP
   cases rl.inv0
   have ho':OkR E H ((bm K CL [.lst l,.int c]).bind fun _=> .ok (D.ins CL ["minutes","gap"] [.tup l,.int c])):=ho
   refine ⟨_,rH (fJ (dR (E:=E) (aJ gI hr (aa (dv 1) (aa (dv 2) ae)))))
    (rH (x8 (pv 0) (dR (E:=E) (xS T.b_tuple (dv 1))) rfl) (As (x8 (pv 0) (pv 2) rfl))),?_⟩
   have ro:Ro K G (fM ["self","runs","clear"] [.ref p,v1,v2]) [none,some (.lst l),some (.int c)]:=Ro.skip (Ro.cons p1 (Ro.cons p2 Ro.nil))
   refine ⟨G,_,hs,ro,ho'.fst,fun d ed v G1 H1 x1 rp1=> ?_⟩
   refine ⟨G1,_,x1.gh,ro.mono x1.gg,trivial,fun d2 ed2 u G2 H2 x2 rp2=> ?_⟩
   have ed3:d2= .tup l:=by cases ed2; rfl
   subst ed3
   have x:=x1.trans x2
   have h2p:H2 p=some (.ins CL dx []):=x.hh _ _ hp
   have g2p:G2 p=none:=by
    cases q:G2 p with
    | none=>rfl
    | some o=>
     rcases x.nw p o q with z | z | ⟨ks,z⟩
     ·rw [gp] at z; cases z
     ·rw [hp] at z; cases z
     ·have h3:=x.gh p o q; rw [h2p] at h3; cases h3; cases z
   refine ⟨_,rfl,p,CL,dx,[],rfl,h2p,T.cl,T.nM,(by show 0 < 1000; decide),_,rfl,_,rfl,p,CL,dx,_,rfl,ao,T.cl,T.nG,(by show 1 < 1000; decide),?_⟩
   refine k ["minutes","gap"] [.tup l,.int c] ?_ [("minutes",u),("gap",v2)] G2 _ rfl (.cons rp2 (.cons (p2.mono x.gg) .nil)) (by rw [ao,zw]) (fun b o e hb=> ?_) x.gg (fun b o e=> ?_) x.nw g2p
   ·show (bm K CL [.lst l,.int c]).bind _=_
    have:bm K CL [.lst l,.int c]= .ok d:=ed
    rw [this]
    rfl
   ·rw [ai hb,ai hb]
    exact x.hh b o e
   ·have hb:b≠p:=fun z=>by subst z; rw [g2p] at e; cases e
    rw [ai hb,ai hb]
    exact x.gh b o e
theorem AC:FnScope ["self"] ["self"] (ag tI):=⟨rfl,rfl,rfl,by decide +kernel,rfl,by decide +kernel,by decide +kernel⟩
theorem zW {f:Addr}{fd:FuncData}(F:Fun K "runs" "Line.runs" tI f fd)(T:Txt K mg CL):FnOk P w K mg base (CXF P w) 1 f fd ["self"] (pureSp K (gi CL)):=by
 refine F.pure AC (fun ds h=> ?_) (fun cdv A outer s H E hr=> ?_)
 ·unfold gi at h
  split at h
  ·rfl
  ·exact absurd rfl h
 ·refine ⟨_,uR (x7 (oP jQ y4 rfl T.b_list ud (aa (xN (dv 0) T.cl T.nM) ae))),?_⟩
  intro ds h
  match ds,h with
  | [d],h=>
   show fv ((((jY CL "minutes" d).bind _).bind _).out _)=(jY CL "minutes" d).bind _
   cases jY CL "minutes" d with
   | ok x=>
    show fv ((eQ [x]).out Out.rt)=eQ [x]
    cases eQ [x] <;> rfl
   | _=>rfl
  | [],h=>exact absurd rfl h
  | _ :: _ :: _,h=>exact absurd rfl h
theorem yp:FnScope ["self"] ["self"] (ag qp):=⟨rfl,rfl,rfl,by decide +kernel,rfl,by decide +kernel,by decide +kernel⟩
theorem xL {f:Addr}{fd:FuncData}(F:Fun K "clear" "Line.clear" qp f fd)(T:Txt K mg CL):FnOk P w K mg base (CXF P w) 1 f fd ["self"] (pureSp K (gU CL)):=by
 refine F.pure yp (fun ds h=> ?_) (fun cdv A outer s H E hr=> ?_)
 ·unfold gU at h
  split at h
  ·rfl
  ·exact absurd rfl h
 ·refine ⟨_,uR (x7 (xN (dv 0) T.cl T.nG)),?_⟩
  intro ds h
  match ds,h with
  | [d],h=>
   show fv ((jY CL "gap" d).out _)=jY CL "gap" d
   cases jY CL "gap" d <;> rfl
  | [],h=>exact absurd rfl h
  | _ :: _ :: _,h=>exact absurd rfl h
noncomputable abbrev hV:Stmt:=top 36
noncomputable abbrev gz:List Str:=["script","k","many","cell","stir"]
@[irreducible] noncomputable def dU (K:W.Frag)(CL:Addr):DS→Out:=(ay (aP 3 (kI 7))
  (ay (lC (f7 (ac (c1 (ab 0) bf) (kI 0) DI)) (aP 3 (ac (ab 0) (ac (ab 1) (c1 (ab 0) bf) kY) aM)) nxt)
  (ay (aP 4 (ac (ac (ac (ac (ab 3) (kI 48271) b_) (ac (ac (ab 1) (kI 1) aO) (kI 7919) b_) aO) (c1 (ab 0) bf) aO) (kI 2147483647) kY))
  (ay (aP 4 (ac (ac (ac (ac (ab 4) (ab 4) b_) (ac (ab 1) (kI 16807) b_) aO) (kI 11) aO) (kI 2147483647) kY))
  (ca (ac (ac (ac (ac (ab 4) (kI 48271) b_) (kI 2147483647) kY) (kI 16) jX) (ab 2) kY))))))
noncomputable def al (K:W.Frag)(CL:Addr):List D→Res D:=iz 3 gz (dU K CL)
theorem sc__law_drawn:FnScope gz ["script","k","many"] (ag hV):=⟨rfl,rfl,rfl,by decide +kernel,rfl,by decide +kernel,by decide +kernel⟩
theorem aD (T:Txt K mg CL)(S:Sta K mg "_law_drawn" hV ["script","k","many"]):Cal P w K mg base "_law_drawn" 1 ["script","k","many"] (freshSp K 0 (al K CL)):=by
 refine S.cal (k:=0) (r:=0) (F:=dU K CL) sc__law_drawn [] (by decide) rfl fun f cdv A outer s H E hr=> ?_
 unfold dU
 exact (ah (ax (i:=3) sc__law_drawn.nd rfl (.inl rfl) (aK (PN.of af)))
   (ah (cC (a9 Ba (bw T.b_len (dv 0)) af (ck _)) (am (ax (i:=3) sc__law_drawn.nd rfl (.inl rfl) (aK (PN.of (aB (dv 0) (aj jw (dv 1) (bw T.b_len (dv 0)))))))) bH)
   (ah (ax (i:=4) sc__law_drawn.nd rfl (.inl rfl) (aK (PN.of (aj jw (aj av (aj av (aj bB (dv 3) af) (aj bB (aj av (dv 1) af) af)) (bw T.b_len (dv 0))) af))))
   (ah (ax (i:=4) sc__law_drawn.nd rfl (.inl rfl) (aK (PN.of (aj jw (aj av (aj av (aj bB (dv 4) (dv 4)) (aj bB (dv 1) af)) af) af))))
   (am (bj (aK (PN.of (aj jw (aj pD (aj jw (aj bB (dv 4) af) af) af) (dv 2))))))))))
noncomputable abbrev dl:Stmt:=top 37
noncomputable abbrev cW:List Str:=["script","base","many","runs"]
@[irreducible] noncomputable def cR (K:W.Frag)(CL:Addr):DS→Out:=(ay (aP 2 (ac (kI 1) (bx (pC (ab 0) (pC (ab 1) (pC (kI 5) pN))) (al K CL)) aO))
  (ay (aP 3 (aF (sR1 (pC (ab 2) pN)) [none,some 0,some 1] (bb 0) yes (ac (kI 1) (bx (pC (ab 1) (pC (ac (ac (ab 2) (kI 2) aO) (ab 0) aO) (pC (ac (fu (pC (kI 4) (pC (kI 20) pN))) (bx (pC (ab 1) (pC (ac (ab 2) (kI 1) aO) (pC (kI 2) pN))) (al K CL)) aM) pN))) (al K CL)) aO)))
  (ca (bX (pC (ab 3) (pC (bx (pC (ab 0) (pC (ac (ab 1) (kI 8) aO) (pC (kI 6) pN))) (al K CL)) pN))))))
noncomputable def cf (K:W.Frag)(CL:Addr):List D→Res D:=iz 2 cW (cR K CL)
theorem sc__law_line_by:FnScope cW ["script","base"] (ag dl):=⟨rfl,rfl,rfl,by decide +kernel,rfl,by decide +kernel,by decide +kernel⟩
theorem eG (T:Txt K mg CL)(S:Sta K mg "_law_line_by" dl ["script","base"])(aD:Cal P w K mg base "_law_drawn" 1 ["script","k","many"] (freshSp K 0 (al K CL))):Cal P w K mg base "_law_line_by" 2 ["script","base"] (freshSp K 0 (cf K CL)):=by
 refine S.cal (k:=1) (r:=0) (F:=cR K CL) sc__law_line_by [] (by decide) rfl fun f cdv A outer s H E hr=> ?_
 unfold cR
 exact (ah (ax (i:=2) sc__law_line_by.nd rfl (.inl rfl) (aK (PN.of (aj av af (aJ aD hr (aa (dv 0) (aa (dv 1) (aa af ae))))))))
   (ah (kg (dN sc__law_line_by.nd (i:=3) rfl rfl rfl (aI (N:=["k","script","base"]) (caps:=[none,some 0,some 1]) (ag dl) cW rfl rfl (by decide +kernel)) (j:=0) rfl rfl (.inl rfl) (eZ rfl T.b_range (aa (dv 2) ae)) (fun _ _ _ _=>aQ) (fun _ _ _ _=>(PN.of (aj av af (aJ aD hr (aa (dv 1) (aa (aj av (aj av (dv 2) af) (dv 0)) (aa (aB (qg (aa af (aa af ae))) (aJ aD hr (aa (dv 1) (aa (aj av (dv 2) af) (aa af ae))) dg)) ae))) dg))))) rfl)
   (am (bj (aK (PN.of (bQ (aa (dv 3) (aa (aJ aD hr (aa (dv 0) (aa (aj av (dv 1) af) (aa af ae)))) ae)))))))))
noncomputable abbrev dF:Stmt:=top 38
noncomputable abbrev bL:List Str:=["script","base","stretches","most","trains","k","start","goal"]
noncomputable abbrev aS:List Nat:=[0,0,0,0,1,0,0,0]
@[irreducible] noncomputable def br (K:W.Frag)(CL:Addr):DS→Out:=(ay (aP 4 (da aS (fu pN)))
  (ay (im (sR1 (pC (ac (kI 1) (bx (pC (ab 0) (pC (ab 1) (pC (ab 3) pN))) (al K CL)) aO) pN)) (bb 5) (ay (aP 6 (da aS (bx (pC (ab 0) (pC (ac (ac (ab 1) (kI 1) aO) (ac (kI 5) (ab 5) b_) aO) (pC (ac (ab 2) (kI 1) aO) pN))) (al K CL))))
  (ay (aP 7 (da aS (ac (ac (ac (ab 6) (kI 1) aO) (bx (pC (ab 0) (pC (ac (ac (ab 1) (kI 2) aO) (ac (kI 5) (ab 5) b_) aO) (pC (ab 2) pN))) (al K CL)) aO) (ac (ab 2) (kI 1) aO) kY)))
  (ay (lC (f7 (ac (bx (pC (ab 0) (pC (ac (ac (ab 1) (kI 3) aO) (ac (kI 5) (ab 5) b_) aO) (pC (kI 3) pN))) (al K CL)) (kI 1) wv)) (ay (aP 6 (da aS (ac (bx (pC (ab 0) (pC (ac (ac (ab 1) (kI 4) aO) (ac (kI 5) (ab 5) b_) aO) (pC (kI 2) pN))) (al K CL)) (ab 2) b_)))
  (aP 7 (da aS (ac (ab 2) (ab 6) jI)))) nxt)
  (jO 4 (da aS (bX (pC (ab 6) (pC (ab 7) (pC (bx (pC (ab 0) (pC (ac (ac (ab 1) (kI 5) aO) (ac (kI 5) (ab 5) b_) aO) (pC (ac (fu (pC (kI 1) (pC (kI 9) (pC (kI 61) pN)))) (bx (pC (ab 0) (pC (ac (ab 1) (kI 40) aO) (pC (kI 3) pN))) (al K CL)) aM) pN))) (al K CL)) pN))))))))))
  (ca (ab 4))))
noncomputable def bc (K:W.Frag)(CL:Addr):List D→Res D:=iz 4 bL (br K CL)
theorem sc__law_trains_by:FnScope bL ["script","base","stretches","most"] (ag dF):=⟨rfl,rfl,rfl,by decide +kernel,rfl,by decide +kernel,by decide +kernel⟩
theorem dz (T:Txt K mg CL)(S:Sta K mg "_law_trains_by" dF ["script","base","stretches","most"])(aD:Cal P w K mg base "_law_drawn" 1 ["script","k","many"] (freshSp K 0 (al K CL))):Cal P w K mg base "_law_trains_by" 2 ["script","base","stretches","most"] (freshSp K 1 (bc K CL)):=by
 refine S.cal (k:=1) (r:=1) (F:=br K CL) sc__law_trains_by aS (by decide) rfl fun f cdv A outer s H E hr=> ?_
 unfold br
 exact (ah (ax (i:=4) sc__law_trains_by.nd rfl (.inl rfl) (aE (iQ ae)))
   (ah (i_ (j:=5) PassesOwn.leaving rfl sc__law_trains_by.nd rfl (.inl rfl) rfl (pb rfl T.b_range (aa (aj av af (aJ aD hr (aa (dv 0) (aa (dv 1) (aa (dv 3) ae))))) ae))
    (ah (ax (i:=6) sc__law_trains_by.nd rfl (.inl rfl) (aE (PN.of (aJ aD hr (aa (dv 0) (aa (aj av (aj av (dv 1) af) (aj bB af (dv 5))) (aa (aj av (dv 2) af) ae)))))))
   (ah (ax (i:=7) sc__law_trains_by.nd rfl (.inl rfl) (aE (PN.of (aj jw (aj av (aj av (dv 6) af) (aJ aD hr (aa (dv 0) (aa (aj av (aj av (dv 1) af) (aj bB af (dv 5))) (aa (dv 2) ae))))) (aj av (dv 2) af)))))
   (ah (cC (a9 (om hr.units) (aJ aD hr (aa (dv 0) (aa (aj av (aj av (dv 1) af) (aj bB af (dv 5))) (aa af ae)))) af (ck _)) (ah (ax (i:=6) sc__law_trains_by.nd rfl (.inl rfl) (aE (PN.of (aj bB (aJ aD hr (aa (dv 0) (aa (aj av (aj av (dv 1) af) (aj bB af (dv 5))) (aa af ae)))) (dv 2)))))
   (am (ax (i:=7) sc__law_trains_by.nd rfl (.inl rfl) (aE (PN.of (aj jz (dv 2) (dv 6))))))) bH)
   (am (i9 (j:=4) (n:=0) rfl rfl (.inl rfl) (aE (PN.of (bQ (aa (dv 6) (aa (dv 7) (aa (aJ aD hr (aa (dv 0) (aa (aj av (aj av (dv 1) af) (aj bB af (dv 5))) (aa (aB (qg (aa af (aa af (aa af ae)))) (aJ aD hr (aa (dv 0) (aa (aj av (dv 1) af) (aa af ae))))) ae)))) ae))))))))))))
   (am (gZ (i:=4) rfl rfl (.inl rfl)))))
noncomputable abbrev ff:Stmt:=top 39
noncomputable abbrev eE:List Str:=["train"]
@[irreducible] noncomputable def gu (K:W.Frag)(CL:Addr):DS→Out:=(ay (lC (f7 (ac (ac (ab 0) (kI 0) aM) (ac (ab 0) (kI 1) aM) DJ)) (ca (aF (sR2 (pC (ac (ab 0) (kI 0) aM) (pC (ac (ab 0) (kI 1) aM) pN))) [none] (bb 0) yes (ab 0))) nxt)
  (ca (ac (aF (sR2 (pC (ac (ab 0) (kI 1) aM) (pC (ac (ab 0) (kI 0) aM) pN))) [none] (bb 0) yes (ab 0)) (nG (kI 1)) k9)))
noncomputable def bv (K:W.Frag)(CL:Addr):List D→Res D:=iz 1 eE (gu K CL)
theorem rP:FnScope eE ["train"] (ag ff):=⟨rfl,rfl,rfl,by decide +kernel,rfl,by decide +kernel,by decide +kernel⟩
theorem eI (T:Txt K mg CL)(S:Sta K mg "_law_way" ff ["train"]):Cal P w K mg base "_law_way" 1 ["train"] (freshSp K 0 (bv K CL)):=by
 refine S.cal (k:=0) (r:=0) (F:=gu K CL) rP [] (by decide) rfl fun f cdv A outer s H E hr=> ?_
 unfold gu
 exact (ah (cC (a9 ug (aB (dv 0) af) (aB (dv 0) af) (ck _)) (am (bj (aK (PN.of (PN.pd (bo (j:=0) rfl (aI (N:=["k"]) (caps:=[none]) (ag ff) eE rfl rfl (by decide +kernel)) rfl rfl (.inl rfl) (m9 rfl T.b_range (aa (aB (dv 0) af) (aa (aB (dv 0) af) ae))) (fun _ _ _ _=>aQ) (fun _ _ _ _=>(PN.of (dv 0))))))))) bH)
   (am (bj (aK (PN.of (PN.pd (tz (PN.pd (bo (j:=0) rfl (aI (N:=["k"]) (caps:=[none]) (ag ff) eE rfl rfl (by decide +kernel)) rfl rfl (.inl rfl) (m9 rfl T.b_range (aa (aB (dv 0) af) (aa (aB (dv 0) af) ae))) (fun _ _ _ _=>aQ) (fun _ _ _ _=>(PN.of (dv 0))))) (m7 af))))))))
noncomputable abbrev eh:Stmt:=top 40
noncomputable abbrev d7:List Str:=["stretches","trains"]
@[irreducible] noncomputable def dX (K:W.Frag)(CL:Addr):DS→Out:=(ca (aF (sR1 (pC (ab 0) pN)) [none,some 1] (bb 0) yes (aF (sR1 (pC (c1 (ab 1) bf) pN)) [none,some 0,some 1] (bb 0) (f7 (ac (ab 1) (bx (pC (ac (ab 2) (ab 0) aM) pN) (bv K CL)) (kC false))) (ab 0))))
noncomputable def bT (K:W.Frag)(CL:Addr):List D→Res D:=iz 2 d7 (dX K CL)
theorem nR:FnScope d7 ["stretches","trains"] (ag eh):=⟨rfl,rfl,rfl,by decide +kernel,rfl,by decide +kernel,by decide +kernel⟩
theorem gH (T:Txt K mg CL)(S:Sta K mg "_law_users" eh ["stretches","trains"])(eI:Cal P w K mg base "_law_way" 1 ["train"] (freshSp K 0 (bv K CL))):Cal P w K mg base "_law_users" 2 ["stretches","trains"] (freshSp K 0 (bT K CL)):=by
 refine S.cal (k:=1) (r:=0) (F:=dX K CL) nR [] (by decide) rfl fun f cdv A outer s H E hr=> ?_
 unfold dX
 exact (am (bj (aK (PN.of (PN.pd (bo (j:=0) rfl (aI (N:=["stretch","trains"]) (caps:=[none,some 1]) (ag eh) d7 rfl rfl (by decide +kernel)) rfl rfl (.inr rfl) (eZ rfl T.b_range (aa (dv 0) ae)) (fun _ _ _ _=>aQ) (fun _ _ _ _=>(PN.of (PN.pd (bo (j:=0) rfl (jR (N:=["k","stretch","trains"]) (caps:=[none,some 0,some 1]) (by decide +kernel)) rfl rfl (.inl rfl) (eZ rfl T.b_range (aa (bw T.b_len (dv 1)) ae)) (fun _ _ _ _=>eX (a9 (wK hr.units) (dv 1) (aJ eI hr (aa (aB (dv 2) (dv 0)) ae) dg) (by rfl))) (fun _ _ _ _=>(PN.of (dv 0)))))))))))))
noncomputable abbrev bd:Stmt:=top 41
noncomputable abbrev aX:List Str:=["script","base","runs","gap","trains","mode","orders","stretch","left","row","ranks"]
noncomputable abbrev aA:List Nat:=[0,0,0,0,0,0,2,0,1,1,0]
@[irreducible] noncomputable def bK (K:W.Frag)(CL:Addr):DS→Out:=(ay (aP 5 (da aA (bx (pC (ab 0) (pC (ab 1) (pC (kI 3) pN))) (al K CL))))
  (ay (lC (f7 (ac (ab 5) (kI 0) wv)) (ay (aP 6 (da aA (fu pN)))
  (ay (im (sR1 (pC (c1 (ab 2) bf) pN)) (bb 7) (ay (aP 8 (da aA (bx (Gd (ac (bx (pC (c1 (ab 2) bf) (pC (ab 4) pN)) (bT K CL)) (ab 7) aM)) eQ)))
  (ay (aP 9 (da aA (fu pN)))
  (ay (bI (f7 (ac (c1 (ab 8) bf) (kI 0) DI)) (gG 9 8 (bx (pC (ab 0) (pC (ac (ac (ac (ab 1) (kI 1) aO) (ac (kI 6) (ab 7) b_) aO) (c1 (ab 9) bf) aO) (pC (c1 (ab 8) bf) pN))) (al K CL))) 6)
  (l_ 6 9)))))
  (ca (ab 6)))) nxt)
  (ay (aP 10 (da aA (aF (sE (pC (ab 4) pN)) [none,none,some 5] (fq 0 1) yes (bX (pC (ac (ac (ab 1) (kI 2) aM) (ac (ab 2) (kI 1) jI) b_) (pC (ab 0) pN))))))
  (ay (aP 10 (da aA (aF (sR1 (pC (c1 (ab 4) bf) pN)) [none,some 0,some 10,some 1] (bb 0) yes (bX (pC (ac (ac (ac (ab 2) (ab 0) aM) (kI 0) aM) (bx (pC (ab 1) (pC (ac (ac (ab 3) (kI 40) aO) (ab 0) aO) (pC (kI 9) pN))) (al K CL)) aO) (pC (ab 0) pN))))))
  (ay (aP 9 (da aA (aF (sL (c1 (ab 10) fk)) [none] (bb 0) yes (ac (ab 0) (kI 1) aM))))
  (ca (wx 2 (aF (sR1 (pC (c1 (ab 2) bf) pN)) [none,some 9,some 4] (bb 0) yes (aF (sL (ab 1)) [none,some 0,some 2] (bb 0) (f7 (ac (ab 1) (bx (pC (ac (ab 2) (ab 0) aM) pN) (bv K CL)) (kC false))) (ab 0))))))))))
noncomputable def aY (K:W.Frag)(CL:Addr):List D→Res D:=iz 5 aX (bK K CL)
theorem sc__law_orders_by:FnScope aX ["script","base","runs","gap","trains"] (ag bd):=⟨rfl,rfl,rfl,by decide +kernel,rfl,by decide +kernel,by decide +kernel⟩
theorem dw (T:Txt K mg CL)(S:Sta K mg "_law_orders_by" bd ["script","base","runs","gap","trains"])(aD:Cal P w K mg base "_law_drawn" 1 ["script","k","many"] (freshSp K 0 (al K CL)))(gH:Cal P w K mg base "_law_users" 2 ["stretches","trains"] (freshSp K 0 (bT K CL)))(eI:Cal P w K mg base "_law_way" 1 ["train"] (freshSp K 0 (bv K CL))):Cal P w K mg base "_law_orders_by" 3 ["script","base","runs","gap","trains"] (freshSp K 2 (aY K CL)):=by
 refine S.cal (k:=2) (r:=2) (F:=bK K CL) sc__law_orders_by aA (by decide) rfl fun f cdv A outer s H E hr=> ?_
 unfold bK
 exact (ah (ax (i:=5) sc__law_orders_by.nd rfl (.inr rfl) (aE (PN.of (aJ aD hr (aa (dv 0) (aa (dv 1) (aa af ae)))))))
   (ah (cC (a9 (om hr.units) (dv 5) af (ck _)) (ah (ax (i:=6) sc__law_orders_by.nd rfl (.inl rfl) (aE (Am Ao)))
   (ah (i_ (j:=7) PassesOwn.leaving rfl sc__law_orders_by.nd rfl (.inl rfl) rfl (pb rfl T.b_range (aa (bw T.b_len (dv 2)) ae))
    (ah (ax (i:=8) sc__law_orders_by.nd rfl (.inl rfl) (aE (An (aB (aJ gH hr (aa (bw T.b_len (dv 2)) (aa (dv 4) ae))) (dv 7)) rfl T.b_list)))
   (ah (ax (i:=9) sc__law_orders_by.nd rfl (.inr rfl) (aE (iQ ae)))
   (ah (kh 6 PassesOwn.leaving (a9 Ba (bw T.b_len (dv 8)) af (ck _)) (am (v9 (j:=9) (i:=8) (by decide) rfl rfl rfl rfl (.inr (.inl rfl)) (.inl rfl) (aJ aD hr (aa (dv 0) (aa (aj av (aj av (aj av (dv 1) af) (aj bB af (dv 7))) (bw T.b_len (dv 9))) (aa (bw T.b_len (dv 8)) ae)))))))
   (am (xY (n:=1) (j:=6) (i:=9) (by decide) rfl rfl rfl rfl (.inl rfl) (.inr (.inl rfl))))))))
   (am (gZ (i:=6) rfl rfl (.inl rfl))))) bH)
   (ah (ax (i:=10) sc__law_orders_by.nd rfl (.inr rfl) (aE (PN.of (PN.pd (rE (j:=0) (l:=1) rfl (aI (N:=["k","train","mode"]) (caps:=[none,none,some 5]) (ag bd) aX rfl rfl (by decide +kernel)) rfl rfl rfl rfl (.inl rfl) (.inl rfl) (dM rfl T.b_enumerate (aa (dv 4) ae)) (fun _ _ _ _=>aQ) (fun _ _ _ _=>(PN.of (bQ (aa (aj bB (aB (dv 1) af) (aj jz (dv 2) af)) (aa (dv 0) ae))))))))))
   (ah (ax (i:=10) sc__law_orders_by.nd rfl (.inr rfl) (aE (PN.of (PN.pd (bo (j:=0) rfl (aI (N:=["k","script","ranks","base"]) (caps:=[none,some 0,some 10,some 1]) (ag bd) aX rfl rfl (by decide +kernel)) rfl rfl (.inl rfl) (eZ rfl T.b_range (aa (bw T.b_len (dv 4)) ae)) (fun _ _ _ _=>aQ) (fun _ _ _ _=>(PN.of (bQ (aa (aj av (aB (aB (dv 2) (dv 0)) af) (aJ aD hr (aa (dv 1) (aa (aj av (aj av (dv 3) af) (dv 0)) (aa af ae))) dg)) (aa (dv 0) ae))))))))))
   (ah (ax (i:=9) sc__law_orders_by.nd rfl (.inr rfl) (aE (bo (j:=0) rfl (aI (N:=["pair"]) (caps:=[none]) (ag bd) aX rfl rfl (by decide +kernel)) rfl rfl (.inl rfl) (aU (PN.pd (rF T.b_sorted (dv 10)))) (fun _ _ _ _=>aQ) (fun _ _ _ _=>(PN.of (aB (dv 0) af))))))
   (am (bj (fK (bo (j:=0) rfl (aI (N:=["stretch","row","trains"]) (caps:=[none,some 9,some 4]) (ag bd) aX rfl rfl (by decide +kernel)) rfl rfl (.inr rfl) (eZ rfl T.b_range (aa (bw T.b_len (dv 2)) ae)) (fun _ _ _ _=>aQ) (fun _ _ _ _=>(bo (j:=0) rfl (jR (N:=["k","stretch","trains"]) (caps:=[none,some 0,some 2]) (by decide +kernel)) rfl rfl (.inl rfl) (aU (dv 1)) (fun _ _ _ _=>eX (a9 (wK hr.units) (dv 1) (aJ eI hr (aa (aB (dv 2) (dv 0)) ae) dg) (by rfl))) (fun _ _ _ _=>(PN.of (dv 0))))))))))))))
noncomputable abbrev fX:Stmt:=top 14
noncomputable abbrev fN:List Str:=["line","train","last_halt","halt","ready"]
@[irreducible] noncomputable def dG (K:W.Frag)(CL:Addr):DS→Out:=(ay (lC (f7 (ac (c1 (ab 1) bf) (kI 3) vW)) bad1 nxt)
  (ay (aP 2 (c1 (iM CL "runs" (ab 0) (gi CL)) bf))
  (ay (im (sT (yO (ab 1) oN (oI (kI 2)))) (bb 3) (lC (m5 (gL (kI 0) (ab 3) (ab 2) sj sj)) bad1 nxt))
  (ay (lC (f7 (ac (ac (ab 1) (kI 0) aM) (ac (ab 1) (kI 1) aM) wv)) bad1 nxt)
  (ay (aP 4 (ac (ab 1) (kI 2) aM))
  (lC (m5 (gL (kI 0) (ab 4) (kI 60) sj sj)) bad1 nxt))))))
noncomputable def b7 (K:W.Frag)(CL:Addr):List D→Res D:=iz 2 fN (dG K CL)
theorem sc_check_train:FnScope fN ["line","train"] (ag fX):=⟨rfl,rfl,rfl,by decide +kernel,rfl,by decide +kernel,by decide +kernel⟩
theorem fP (T:Txt K mg CL)(S:Sta K mg "check_train" fX ["line","train"])(c_runs:CalM P w K mg base CL "runs" 1 (gi CL)):Cal P w K mg base "check_train" 2 ["line","train"] (freshSp K 0 (b7 K CL)):=by
 refine S.cal (k:=1) (r:=0) (F:=dG K CL) sc_check_train [] (by decide) rfl fun f cdv A outer s H E hr=> ?_
 unfold dG
 exact (ah (cC (a9 (qM hr.units) (bw T.b_len (dv 1)) af (ck _)) (am cD) bH)
   (ah (ax (i:=2) sc_check_train.nd rfl (.inl rfl) (aK (PN.of (bw T.b_len (oQ c_runs hr (dv 0))))))
   (ah (i_ (j:=3) PassesOwn.leaving rfl sc_check_train.nd rfl (.inl rfl) rfl (tY (Af (m8 (dv 1) j_ (ka af))))
    (am (cC (fI (eB ii ii af (dv 3) (dv 2))) (am cD) bH)))
   (ah (cC (a9 (om hr.units) (aB (dv 1) af) (aB (dv 1) af) (ck _)) (am cD) bH)
   (ah (ax (i:=4) sc_check_train.nd rfl (.inl rfl) (aK (PN.of (aB (dv 1) af))))
   (am (cC (fI (eB ii ii af (dv 4) (rA T.mY))) (am cD) bH)))))))
noncomputable abbrev yo:Stmt:=top 13
noncomputable abbrev wA:List Str:=["line","train","start","end"]
@[irreducible] noncomputable def t7 (K:W.Frag)(CL:Addr):DS→Out:=(ay (um (bx (pC (ab 0) (pC (ab 1) pN)) (b7 K CL)))
  (ay (aP 2 (ac (ab 1) (kI 0) aM))
  (ay (aP 3 (ac (ab 1) (kI 1) aM))
  (ay (lC (f7 (ac (ab 2) (ab 3) DJ)) (ca (bx (pC (ab 2) (pC (ab 3) pN)) oG)) nxt)
  (ca (bx (pC (ac (ab 2) (kI 1) jI) (pC (ac (ab 3) (kI 1) jI) (pC (nG (kI 1)) pN))) oH))))))
noncomputable def rf (K:W.Frag)(CL:Addr):List D→Res D:=iz 2 wA (t7 K CL)
theorem sc_way:FnScope wA ["line","train"] (ag yo):=⟨rfl,rfl,rfl,by decide +kernel,rfl,by decide +kernel,by decide +kernel⟩
theorem wH (T:Txt K mg CL)(S:Sta K mg "way" yo ["line","train"])(fP:Cal P w K mg base "check_train" 2 ["line","train"] (freshSp K 0 (b7 K CL))):Cal P w K mg base "way" 3 ["line","train"] (freshSp K 0 (rf K CL)):=by
 refine S.cal (k:=2) (r:=0) (F:=t7 K CL) sc_way [] (by decide) rfl fun f cdv A outer s H E hr=> ?_
 unfold t7
 exact (ah (uO (aJ fP hr (aa (dv 0) (aa (dv 1) ae))))
   (ah (ax (i:=2) sc_way.nd rfl (.inl rfl) (aK (PN.of (aB (dv 1) af))))
   (ah (ax (i:=3) sc_way.nd rfl (.inl rfl) (aK (PN.of (aB (dv 1) af))))
   (ah (cC (a9 ug (dv 2) (dv 3) (ck _)) (am (bj (aK (PN.of (s_ rfl rfl T.b_list rfl T.b_range (aa (dv 2) (aa (dv 3) ae))))))) bH)
   (am (bj (aK (PN.of (tf rfl rfl T.b_list rfl T.b_range (aa (aj jz (dv 2) af) (aa (aj jz (dv 3) af) (aa (m7 af) ae))))))))))))
noncomputable abbrev qq:Stmt:=top 15
noncomputable abbrev ph:List Str:=["line","trains"]
@[irreducible] noncomputable def pf (K:W.Frag)(CL:Addr):DS→Out:=(ay (lC (m5 (gL (kI 1) (c1 (ab 1) bf) (kI 5) sj sj)) bad1 nxt)
  (ca (aF (sL (ab 1)) [none,some 0] (bb 0) yes (bx (pC (ab 1) (pC (ab 0) pN)) (rf K CL)))))
noncomputable def gW (K:W.Frag)(CL:Addr):List D→Res D:=iz 2 ph (pf K CL)
theorem AD:FnScope ph ["line","trains"] (ag qq):=⟨rfl,rfl,rfl,by decide +kernel,rfl,by decide +kernel,by decide +kernel⟩
theorem mh (T:Txt K mg CL)(S:Sta K mg "ways" qq ["line","trains"])(wH:Cal P w K mg base "way" 3 ["line","train"] (freshSp K 0 (rf K CL))):Cal P w K mg base "ways" 4 ["line","trains"] (freshSp K 0 (gW K CL)):=by
 refine S.cal (k:=3) (r:=0) (F:=pf K CL) AD [] (by decide) rfl fun f cdv A outer s H E hr=> ?_
 unfold pf
 exact (ah (cC (fI (eB ii ii af (bw T.b_len (dv 1)) (rA T.mT))) (am cD) bH)
   (am (bj (aK (PN.of (PN.pd (bo (j:=0) rfl (aI (N:=["train","line"]) (caps:=[none,some 0]) (ag qq) ph rfl rfl (by decide +kernel)) rfl rfl (.inl rfl) (aU (dv 1)) (fun _ _ _ _=>aQ) (fun _ _ _ _=>(PN.of (aJ wH hr (aa (dv 1) (aa (dv 0) ae)) dg))))))))))
noncomputable abbrev hZ:Stmt:=top 29
noncomputable abbrev gB:List Str:=["paths","table","stretch","entries","train","path","entered","minute"]
noncomputable abbrev cA:List Nat:=[0,0,0,1,0,0,0,0]
@[irreducible] noncomputable def dZ (K:W.Frag)(CL:Addr):DS→Out:=(ay (aP 3 (da cA (fu pN)))
  (ay (im (xb cA (sE (pC (ab 0) pN))) (fq 4 5) (im (xb cA (sZ (pC (ab 5) (pC (ac (ab 1) (ab 4) aM) pN)))) (fq 6 7) (lC (f7 (ac (ab 6) (ab 2) wv)) (jO 3 (da cA (bX (pC (ab 7) (pC (ab 4) pN))))) nxt)))
  (ca (wx 1 (c1 (ab 3) fk)))))
noncomputable def dc (K:W.Frag)(CL:Addr):List D→Res D:=iz 3 gB (dZ K CL)
theorem sc_entries_on:FnScope gB ["paths","table","stretch"] (ag hZ):=⟨rfl,rfl,rfl,by decide +kernel,rfl,by decide +kernel,by decide +kernel⟩
theorem gJ (T:Txt K mg CL)(S:Sta K mg "entries_on" hZ ["paths","table","stretch"]):Cal P w K mg base "entries_on" 1 ["paths","table","stretch"] (freshSp K 0 (dc K CL)):=by
 refine S.cal (k:=0) (r:=0) (F:=dZ K CL) sc_entries_on cA (by decide) rfl fun f cdv A outer s H E hr=> ?_
 unfold dZ
 exact (ah (ax (i:=3) sc_entries_on.nd rfl (.inl rfl) (aE (iQ ae)))
   (ah (gY (j:=4) (k:=5) PassesOwn.leaving rfl sc_entries_on.nd rfl rfl (.inl rfl) (.inl rfl) rfl rfl (eA (dM rfl T.b_enumerate (aa (dv 0) ae)))
    (am (gY (j:=6) (k:=7) PassesOwn.leaving rfl sc_entries_on.nd rfl rfl (.inl rfl) (.inl rfl) rfl rfl (eA (qi rfl T.b_zip (aa (dv 5) (aa (aB (dv 1) (dv 4)) ae))))
    (am (cC (a9 (om hr.units) (dv 6) (dv 2) (ck _)) (am (i9 (j:=3) (n:=0) rfl rfl (.inl rfl) (aE (PN.of (bQ (aa (dv 7) (aa (dv 4) ae))))))) bH)))))
   (am (bj (PZ.zero (fK (rF T.b_sorted (dv 3))))))))
noncomputable abbrev fg:Stmt:=top 34
noncomputable abbrev eF:List Str:=["line","trains","paths","plan","train","row"]
@[irreducible] noncomputable def cU (K:W.Frag)(CL:Addr):DS→Out:=(ay (aP 5 (ac (ab 3) (ab 4) aM))
  (ay (lC (m5 (tR (ab 5))) (ca (ac (ac (ab 1) (ab 4) aM) (kI 2) aM)) nxt)
  (ca (ac (ac (ab 5) (nG (kI 1)) aM) (ac (iM CL "runs" (ab 0) (gi CL)) (ac (ac (ab 2) (ab 4) aM) (ac (c1 (ab 5) bf) (kI 1) jI) aM) aM) aO))))
noncomputable def cj (K:W.Frag)(CL:Addr):List D→Res D:=iz 5 eF (cU K CL)
theorem sc_minute_there:FnScope eF ["line","trains","paths","plan","train"] (ag fg):=⟨rfl,rfl,rfl,by decide +kernel,rfl,by decide +kernel,by decide +kernel⟩
theorem eM (T:Txt K mg CL)(S:Sta K mg "minute_there" fg ["line","trains","paths","plan","train"])(c_runs:CalM P w K mg base CL "runs" 1 (gi CL)):Cal P w K mg base "minute_there" 2 ["line","trains","paths","plan","train"] (freshSp K 0 (cj K CL)):=by
 refine S.cal (k:=1) (r:=0) (F:=cU K CL) sc_minute_there [] (by decide) rfl fun f cdv A outer s H E hr=> ?_
 unfold cU
 exact (ah (ax (i:=5) sc_minute_there.nd rfl (.inl rfl) (aK (PN.of (aB (dv 3) (dv 4)))))
   (ah (cC (fI (lU (dv 5))) (am (bj (aK (PN.of (aB (aB (dv 1) (dv 4)) af))))) bH)
   (am (bj (aK (PN.of (aj av (aB (dv 5) (m7 af)) (aB (oQ c_runs hr (dv 0)) (aB (aB (dv 2) (dv 4)) (aj jz (bw T.b_len (dv 5)) af))))))))))
noncomputable abbrev cK:Stmt:=top 33
noncomputable abbrev cF:List Str:=["line","trains","paths","plan","train","stretch","apart","minutes"]
@[irreducible] noncomputable def cE (K:W.Frag)(CL:Addr):DS→Out:=(ay (aP 5 (ac (ac (ab 2) (ab 4) aM) (c1 (ac (ab 3) (ab 4) aM) bf) aM))
  (ay (aP 6 (ac (ac (iM CL "runs" (ab 0) (gi CL)) (ab 5) aM) (iM CL "clear" (ab 0) (gU CL)) aO))
  (ay (aP 7 (aF (sL (bx (pC (ab 2) (pC (ab 3) (pC (ab 5) pN))) (dc K CL))) [none,some 6] (bb 0) yes (ac (ac (ab 0) (kI 0) aM) (ab 1) aO)))
  (ca (c1 (ac (fu (pC (bx (pC (ab 0) (pC (ab 1) (pC (ab 2) (pC (ab 3) (pC (ab 4) pN))))) (cj K CL)) pN)) (ab 7) aO) nO)))))
noncomputable def bZ (K:W.Frag)(CL:Addr):List D→Res D:=iz 5 cF (cE K CL)
theorem sc_soonest_enter:FnScope cF ["line","trains","paths","plan","train"] (ag cK):=⟨rfl,rfl,rfl,by decide +kernel,rfl,by decide +kernel,by decide +kernel⟩
theorem dQ (T:Txt K mg CL)(S:Sta K mg "soonest_enter" cK ["line","trains","paths","plan","train"])(gJ:Cal P w K mg base "entries_on" 1 ["paths","table","stretch"] (freshSp K 0 (dc K CL)))(eM:Cal P w K mg base "minute_there" 2 ["line","trains","paths","plan","train"] (freshSp K 0 (cj K CL)))(c_runs:CalM P w K mg base CL "runs" 1 (gi CL))(c_clear:CalM P w K mg base CL "clear" 1 (gU CL)):Cal P w K mg base "soonest_enter" 3 ["line","trains","paths","plan","train"] (freshSp K 0 (bZ K CL)):=by
 refine S.cal (k:=2) (r:=0) (F:=cE K CL) sc_soonest_enter [] (by decide) rfl fun f cdv A outer s H E hr=> ?_
 unfold cE
 exact (ah (ax (i:=5) sc_soonest_enter.nd rfl (.inl rfl) (aK (PN.of (aB (aB (dv 2) (dv 4)) (bw T.b_len (aB (dv 3) (dv 4)))))))
   (ah (ax (i:=6) sc_soonest_enter.nd rfl (.inr rfl) (aK (PN.of (aj av (aB (oQ c_runs hr (dv 0)) (dv 5)) (oQ c_clear hr (dv 0))))))
   (ah (kg (dN sc_soonest_enter.nd (i:=7) rfl rfl rfl (aI (N:=["entry","apart"]) (caps:=[none,some 6]) (ag cK) cF rfl rfl (by decide +kernel)) (j:=0) rfl rfl (.inl rfl) (aU (aJ gJ hr (aa (dv 2) (aa (dv 3) (aa (dv 5) ae))))) (fun _ _ _ _=>aQ) (fun _ _ _ _=>(PN.of (aj av (aB (dv 0) af) (dv 1))))) rfl)
   (am (bj (aK (PN.of (uI T.b_max (aj av (qg (aa (aJ eM hr (aa (dv 0) (aa (dv 1) (aa (dv 2) (aa (dv 3) (aa (dv 4) ae)))))) ae)) (dv 7))))))))))
noncomputable abbrev cm:Stmt:=top 32
noncomputable abbrev cb:List Str:=["line","trains","paths","plan","going"]
@[irreducible] noncomputable def cV (K:W.Frag)(CL:Addr):DS→Out:=(ay (aP 4 (aF (sE (pC (ab 2) pN)) [none,none,some 3] (fq 0 1) (f7 (ac (c1 (ac (ab 2) (ab 0) aM) bf) (c1 (ab 1) bf) DJ)) (ab 0)))
  (ca (aF (sL (ab 4)) [none,some 0,some 1,some 2,some 3] (bb 0) yes (bX (pC (bx (pC (ab 1) (pC (ab 2) (pC (ab 3) (pC (ab 4) (pC (ab 0) pN))))) (bZ K CL)) (pC (ab 0) pN))))))
noncomputable def bN (K:W.Frag)(CL:Addr):List D→Res D:=iz 4 cb (cV K CL)
theorem sc_next_entries:FnScope cb ["line","trains","paths","plan"] (ag cm):=⟨rfl,rfl,rfl,by decide +kernel,rfl,by decide +kernel,by decide +kernel⟩
theorem cZ (T:Txt K mg CL)(S:Sta K mg "next_entries" cm ["line","trains","paths","plan"])(dQ:Cal P w K mg base "soonest_enter" 3 ["line","trains","paths","plan","train"] (freshSp K 0 (bZ K CL))):Cal P w K mg base "next_entries" 4 ["line","trains","paths","plan"] (freshSp K 1 (bN K CL)):=by
 refine S.cal (k:=3) (r:=1) (F:=cV K CL) sc_next_entries [] (by decide) rfl fun f cdv A outer s H E hr=> ?_
 unfold cV
 exact (ah (kg (rG sc_next_entries.nd (i:=4) rfl rfl rfl (aI (N:=["train","path","plan"]) (caps:=[none,none,some 3]) (ag cm) cb rfl rfl (by decide +kernel)) (j:=0) (l:=1) rfl rfl rfl rfl (.inl rfl) (.inl rfl) (dM rfl T.b_enumerate (aa (dv 2) ae)) (fun _ _ _ _=>eX (a9 ug (bw T.b_len (aB (dv 2) (dv 0))) (bw T.b_len (dv 1)) (ck _))) (fun _ _ _ _=>(PN.of (dv 0)))) rfl)
   (am (bj (aK (bo (j:=0) rfl (aI (N:=["train","line","trains","paths","plan"]) (caps:=[none,some 0,some 1,some 2,some 3]) (ag cm) cb rfl rfl (by decide +kernel)) rfl rfl (.inl rfl) (aU (dv 4)) (fun _ _ _ _=>aQ) (fun _ _ _ _=>(PN.of (bQ (aa (aJ dQ hr (aa (dv 1) (aa (dv 2) (aa (dv 3) (aa (dv 4) (aa (dv 0) ae))))) dg) (aa (dv 0) ae))))))))))
noncomputable abbrev en:Stmt:=top 31
noncomputable abbrev d8:List Str:=["line","trains","paths","plan","entries","first"]
noncomputable abbrev cB:List Nat:=[0,0,0,2,0,0]
@[irreducible] noncomputable def d6 (K:W.Frag)(CL:Addr):DS→Out:=(ay (aP 2 (da cB (bx (pC (ab 0) (pC (ab 1) pN)) (gW K CL))))
  (ay (aP 3 (da cB (aF (sL (ab 2)) [none] (bb 0) yes (fu pN))))
  (ay (aP 4 (wx 1 (bx (pC (ab 0) (pC (ab 1) (pC (ab 2) (pC (ab 3) pN)))) (bN K CL))))
  (ay (bI (tR (ab 4)) (ay (aP 5 (da cB (c1 (ab 4) j7)))
  (ay (tG 3 (ac (ab 5) (kI 1) aM) (da cB (ac (ab 5) (kI 0) aM)))
  (aP 4 (wx 1 (bx (pC (ab 0) (pC (ab 1) (pC (ab 2) (pC (ab 3) pN)))) (bN K CL)))))) 60)
  (ca (ab 3))))))
noncomputable def de (K:W.Frag)(CL:Addr):List D→Res D:=iz 2 d8 (d6 K CL)
theorem sc_first_come:FnScope d8 ["line","trains"] (ag en):=⟨rfl,rfl,rfl,by decide +kernel,rfl,by decide +kernel,by decide +kernel⟩
theorem gK (T:Txt K mg CL)(S:Sta K mg "first_come" en ["line","trains"])(cZ:Cal P w K mg base "next_entries" 4 ["line","trains","paths","plan"] (freshSp K 1 (bN K CL)))(mh:Cal P w K mg base "ways" 4 ["line","trains"] (freshSp K 0 (gW K CL))):Cal P w K mg base "first_come" 5 ["line","trains"] (freshSp K 2 (de K CL)):=by
 refine S.cal (k:=4) (r:=2) (F:=d6 K CL) sc_first_come cB (by decide) rfl fun f cdv A outer s H E hr=> ?_
 unfold d6
 exact (ah (ax (i:=2) sc_first_come.nd rfl (.inl rfl) (aE (PN.of (aJ mh hr (aa (dv 0) (aa (dv 1) ae))))))
   (ah (Di (dN sc_first_come.nd (i:=3) rfl rfl rfl (aI (N:=["path"]) (caps:=[none]) (ag en) d8 rfl rfl (by decide +kernel)) (j:=0) rfl rfl (.inl rfl) (aU (dv 2)) (fun _ _ _ _=>aQ) (fun _ _ _ _=>(iQ ae))) rfl rfl)
   (ah (ax (i:=4) sc_first_come.nd rfl (.inl rfl) (PZ.zero (fK (lA (n:=1) cZ hr (aa (dv 0) (aa (dv 1) (aa (dv 2) (aa (dv 3) ae))))))))
   (ah (kh 60 PassesOwn.leaving (lU (dv 4)) (ah (ax (i:=5) sc_first_come.nd rfl (.inl rfl) (aE (PN.of (z9 hr.units T.b_min (dv 4)))))
   (ah (v_ (j:=3) (n:=0) rfl rfl (.inl rfl) (aB (dv 5) af) (aE (PN.of (aB (dv 5) af))) Fu)
   (am (ax (i:=4) sc_first_come.nd rfl (.inl rfl) (PZ.zero (fK (lA (n:=1) cZ hr (aa (dv 0) (aa (dv 1) (aa (dv 2) (aa (dv 3) ae))))))))))))
   (am (gZ (i:=3) rfl rfl (.inl rfl)))))))
noncomputable abbrev dm:Stmt:=top 18
noncomputable abbrev cX:List Str:=["stretches","paths","orders","stretch","order","going"]
@[irreducible] noncomputable def cS (K:W.Frag)(CL:Addr):DS→Out:=(ay (lC (f7 (ac (c1 (ab 2) bf) (ab 0) vW)) bad1 nxt)
  (im (sE (pC (ab 2) pN)) (fq 3 4) (ay (aP 5 (aF (sE (pC (ab 1) pN)) [none,none,some 3] (fq 0 1) (f7 (ac (ab 2) (ab 1) (kC false))) (ab 0)))
  (lC (f7 (ac (c1 (ab 4) lb) (ab 5) vW)) bad1 nxt))))
noncomputable def bM (K:W.Frag)(CL:Addr):List D→Res D:=iz 3 cX (cS K CL)
theorem sc_check_orders:FnScope cX ["stretches","paths","orders"] (ag dm):=⟨rfl,rfl,rfl,by decide +kernel,rfl,by decide +kernel,by decide +kernel⟩
theorem eJ (T:Txt K mg CL)(S:Sta K mg "check_orders" dm ["stretches","paths","orders"]):Cal P w K mg base "check_orders" 1 ["stretches","paths","orders"] (freshSp K 0 (bM K CL)):=by
 refine S.cal (k:=0) (r:=0) (F:=cS K CL) sc_check_orders [] (by decide) rfl fun f cdv A outer s H E hr=> ?_
 unfold cS
 exact (ah (cC (a9 (qM hr.units) (bw T.b_len (dv 2)) (dv 0) (ck _)) (am cD) bH)
   (am (gY (j:=3) (k:=4) PassesOwn.leaving rfl sc_check_orders.nd rfl rfl (.inr rfl) (by first | exact Or.inl rfl | exact Or.inr rfl) rfl rfl (tY (dM rfl T.b_enumerate (aa (dv 2) ae)))
    (ah (kg (rG sc_check_orders.nd (i:=5) rfl rfl rfl (aI (N:=["train","path","stretch"]) (caps:=[none,none,some 3]) (ag dm) cX rfl rfl (by decide +kernel)) (j:=0) (l:=1) rfl rfl rfl rfl (.inl rfl) (.inl rfl) (dM rfl T.b_enumerate (aa (dv 1) ae)) (fun _ _ _ _=>eX (a9 (wK hr.units) (dv 2) (dv 1) (by rfl))) (fun _ _ _ _=>(PN.of (dv 0)))) rfl)
   (am (cC (a9 (qM hr.units) (x6 T.b_sorted (dv 4)) (dv 5) (ck _)) (am cD) bH))))))
noncomputable abbrev jH:Stmt:=top 17
noncomputable abbrev jo:List Str:=["line","paths","orders","runs","gap","waits","train","path","stretch","ahead","behind","order"]
noncomputable abbrev ba:List Nat:=[0,0,0,0,0,2,0,0,0,0,0,0]
@[irreducible] noncomputable def gy (K:W.Frag)(CL:Addr):DS→Out:=(ay (aP 3 (da ba (iM CL "runs" (ab 0) (gi CL))))
  (ay (aP 4 (da ba (iM CL "clear" (ab 0) (gU CL))))
  (ay (um (bx (pC (c1 (ab 3) bf) (pC (ab 1) (pC (ab 2) pN))) (bM K CL)))
  (ay (aP 5 (da ba (fun _=>Res.ok (.dct [] []))))
  (ay (im (xb ba (sE (pC (ab 1) pN))) (fq 6 7) (ay (im (xb ba (sL (ab 7))) (bb 8) (jU 5 (bX (pC (ab 6) (pC (ab 8) pN))) (da ba (fu pN))))
  (im (xb ba (sZ (pC (ab 7) (pC (yO (ab 7) (oI (kI 1)) oN) pN)))) (fq 9 10) (pj 5 1 (yV 5 0 (vc 5) (bX (pC (ab 6) (pC (ab 10) pN)))) (da ba (bX (pC (bX (pC (ab 6) (pC (ab 9) pN))) (pC (ac (ab 3) (ab 9) aM) pN))))))))
  (ay (im (xb ba (sE (pC (ab 2) pN))) (fq 8 11) (im (xb ba (sZ (pC (ab 11) (pC (yO (ab 11) (oI (kI 1)) oN) pN)))) (fq 9 10) (pj 5 1 (yV 5 0 (vc 5) (bX (pC (ab 10) (pC (ab 8) pN)))) (da ba (bX (pC (bX (pC (ab 9) (pC (ab 8) pN))) (pC (ac (ac (ab 3) (ab 8) aM) (ab 4) aO) pN)))))))
  (ca (ab 5))))))))
noncomputable def eT (K:W.Frag)(CL:Addr):List D→Res D:=iz 3 jo (gy K CL)
theorem sc_waits_of:FnScope jo ["line","paths","orders"] (ag jH):=⟨rfl,rfl,rfl,by decide +kernel,rfl,by decide +kernel,by decide +kernel⟩
theorem jt (T:Txt K mg CL)(S:Sta K mg "waits_of" jH ["line","paths","orders"])(eJ:Cal P w K mg base "check_orders" 1 ["stretches","paths","orders"] (freshSp K 0 (bM K CL)))(c_runs:CalM P w K mg base CL "runs" 1 (gi CL))(c_clear:CalM P w K mg base CL "clear" 1 (gU CL)):Cal P w K mg base "waits_of" 2 ["line","paths","orders"] (freshSp K 2 (eT K CL)):=by
 refine S.cal (k:=1) (r:=2) (F:=gy K CL) sc_waits_of ba (by decide) rfl fun f cdv A outer s H E hr=> ?_
 unfold gy
 exact (ah (ax (i:=3) sc_waits_of.nd rfl (.inl rfl) (aE (PN.of (oQ c_runs hr (dv 0)))))
   (ah (ax (i:=4) sc_waits_of.nd rfl (.inl rfl) (aE (PN.of (oQ c_clear hr (dv 0)))))
   (ah (uO (aJ eJ hr (aa (bw T.b_len (dv 3)) (aa (dv 1) (aa (dv 2) ae)))))
   (ah (ax (i:=5) sc_waits_of.nd rfl (.inl rfl) (aE uQ))
   (ah (gY (j:=6) (k:=7) PassesOwn.leaving rfl sc_waits_of.nd rfl rfl (.inl rfl) (.inl rfl) rfl rfl (eA (dM rfl T.b_enumerate (aa (dv 1) ae)))
    (ah (i_ (j:=8) PassesOwn.leaving rfl sc_waits_of.nd rfl (.inl rfl) rfl (eA (aU (dv 7)))
    (am (uN (j:=5) (n:=1) hr.units rfl rfl (.inl rfl) (bQ (aa (dv 6) (aa (dv 8) ae))) (aE (iQ ae)))))
   (am (gY (j:=9) (k:=10) PassesOwn.leaving rfl sc_waits_of.nd rfl rfl (.inl rfl) (.inl rfl) rfl rfl (eA (qi rfl T.b_zip (aa (dv 7) (aa (m8 (dv 7) (ka af) j_) ae))))
    (am (uM (n:=1) (m:=0) rfl (A_ (n:=0) (m:=1) hr.units rfl (su (j:=5) rfl (.inl rfl)) (bQ (aa (dv 6) (aa (dv 10) ae)))) (aE (PN.of (bQ (aa (bQ (aa (dv 6) (aa (dv 9) ae))) (aa (aB (dv 3) (dv 9)) ae))))) (xJ (qe (lv (qe (lv eW (lv eW uE))) (lv (xK eW eW sM) uE))))))))))
   (ah (gY (j:=8) (k:=11) PassesOwn.leaving rfl sc_waits_of.nd rfl rfl (.inl rfl) (.inl rfl) rfl rfl (eA (dM rfl T.b_enumerate (aa (dv 2) ae)))
    (am (gY (j:=9) (k:=10) PassesOwn.leaving rfl sc_waits_of.nd rfl rfl (.inl rfl) (.inl rfl) rfl rfl (eA (qi rfl T.b_zip (aa (dv 11) (aa (m8 (dv 11) (ka af) j_) ae))))
    (am (uM (n:=1) (m:=0) rfl (A_ (n:=0) (m:=1) hr.units rfl (su (j:=5) rfl (.inl rfl)) (bQ (aa (dv 10) (aa (dv 8) ae)))) (aE (PN.of (bQ (aa (bQ (aa (dv 9) (aa (dv 8) ae))) (aa (aj av (aB (dv 3) (dv 8)) (dv 4)) ae))))) (xJ (qe (lv (qe (lv eW (lv eW uE))) (lv (xK (xK eW eW sM) eW yS) uE)))))))))
   (am (gZ (i:=5) rfl rfl (.inl rfl)))))))))
noncomputable abbrev jb:Stmt:=top 21
noncomputable abbrev iY:List Str:=["waits","turn","visit"]
@[irreducible] noncomputable def iW (K:W.Frag)(CL:Addr):DS→Out:=(ca (aF (sL (ac (ab 0) (ab 2) cu)) [none,some 1] (bb 0) (f7 (ac (ac (ab 0) (kI 0) aM) (ab 1) (kC true))) (ac (ab 0) (kI 0) aM)))
noncomputable def cn (K:W.Frag)(CL:Addr):List D→Res D:=iz 3 iY (iW K CL)
theorem tJ:FnScope iY ["waits","turn","visit"] (ag jb):=⟨rfl,rfl,rfl,by decide +kernel,rfl,by decide +kernel,by decide +kernel⟩
theorem f8 (T:Txt K mg CL)(S:Sta K mg "held_by" jb ["waits","turn","visit"]):Cal P w K mg base "held_by" 1 ["waits","turn","visit"] (freshSp K 1 (cn K CL)):=by
 refine S.cal (k:=0) (r:=1) (F:=iW K CL) tJ [] (by decide) rfl fun f cdv A outer s H E hr=> ?_
 unfold iW
 exact (am (bj (aK (bo (j:=0) rfl (aI (N:=["wait","turn"]) (caps:=[none,some 1]) (ag jb) iY rfl rfl (by decide +kernel)) rfl rfl (.inl rfl) (aU (lS hr.units (dv 0) (dv 2))) (fun _ _ _ _=>eX (a9 (jT hr.units) (aB (dv 0) af) (dv 1) (by rfl))) (fun _ _ _ _=>(PN.of (aB (dv 0) af)))))))
noncomputable abbrev lZ:Stmt:=top 20
noncomputable abbrev lH:List Str:=["waits","turn"]
@[irreducible] noncomputable def lG (K:W.Frag)(CL:Addr):DS→Out:=(ca (aF (sD (ab 0)) [none,some 1,some 0] (bb 0) (yT (f7 (ac (ab 0) (ab 1) (kC true))) (m5 (tR (bx (pC (ab 2) (pC (ab 1) (pC (ab 0) pN))) (cn K CL))))) (ab 0)))
noncomputable def fH (K:W.Frag)(CL:Addr):List D→Res D:=iz 2 lH (lG K CL)
theorem yq:FnScope lH ["waits","turn"] (ag lZ):=⟨rfl,rfl,rfl,by decide +kernel,rfl,by decide +kernel,by decide +kernel⟩
theorem lM (T:Txt K mg CL)(S:Sta K mg "freed" lZ ["waits","turn"])(f8:Cal P w K mg base "held_by" 1 ["waits","turn","visit"] (freshSp K 1 (cn K CL))):Cal P w K mg base "freed" 2 ["waits","turn"] (freshSp K 1 (fH K CL)):=by
 refine S.cal (k:=1) (r:=1) (F:=lG K CL) yq [] (by decide) rfl fun f cdv A outer s H E hr=> ?_
 unfold lG
 exact (am (bj (aK (bo (j:=0) rfl (aI (N:=["visit","turn","waits"]) (caps:=[none,some 1,some 0]) (ag lZ) lH rfl rfl (by decide +kernel)) rfl rfl (.inl rfl) (rD (dv 0)) (fun _ _ _ _=>eX (PDW.pt (z_ (a9 (jT hr.units) (dv 0) (dv 1) (by rfl)) (xT (fI (lU (aJ f8 hr (aa (dv 2) (aa (dv 1) (aa (dv 0) ae))) dg))))))) (fun _ _ _ _=>(PN.of (dv 0)))))))
noncomputable abbrev k_:Stmt:=top 19
noncomputable abbrev kG:List Str:=["waits","turn","free"]
noncomputable abbrev eV:List Nat:=[0,1,0]
@[irreducible] noncomputable def iX (K:W.Frag)(CL:Addr):DS→Out:=(ay (aP 1 (da eV (fu pN)))
  (ay (aP 2 (wx 1 (bx (pC (ab 0) (pC (ab 1) pN)) (fH K CL))))
  (ay (bI (tR (ab 2)) (ay (pQ 1 0 (vc 1) (da eV (ab 2)))
  (aP 2 (wx 1 (bx (pC (ab 0) (pC (ab 1) pN)) (fH K CL))))) 40)
  (ca (ab 1)))))
noncomputable def gj (K:W.Frag)(CL:Addr):List D→Res D:=iz 1 kG (iX K CL)
theorem sc_in_turn:FnScope kG ["waits"] (ag k_):=⟨rfl,rfl,rfl,by decide +kernel,rfl,by decide +kernel,by decide +kernel⟩
theorem kJ (T:Txt K mg CL)(S:Sta K mg "in_turn" k_ ["waits"])(lM:Cal P w K mg base "freed" 2 ["waits","turn"] (freshSp K 1 (fH K CL))):Cal P w K mg base "in_turn" 3 ["waits"] (freshSp K 1 (gj K CL)):=by
 refine S.cal (k:=2) (r:=1) (F:=iX K CL) sc_in_turn eV (by decide) rfl fun f cdv A outer s H E hr=> ?_
 unfold iX
 exact (ah (ax (i:=1) sc_in_turn.nd rfl (.inl rfl) (aE (iQ ae)))
   (ah (ax (i:=2) sc_in_turn.nd rfl (.inl rfl) (PZ.zero (fK (lA (n:=1) lM hr (aa (dv 0) (aa (dv 1) ae))))))
   (ah (kh 40 PassesOwn.leaving (lU (dv 2)) (ah (Ak (n:=0) rfl (su (j:=1) rfl (.inl rfl)) (aE (PN.of (dv 2))) (xJ eW))
   (am (ax (i:=2) sc_in_turn.nd rfl (.inl rfl) (PZ.zero (fK (lA (n:=1) lM hr (aa (dv 0) (aa (dv 1) ae)))))))))
   (am (gZ (i:=1) rfl rfl (.inl rfl))))))
noncomputable abbrev jc:Stmt:=top 22
noncomputable abbrev kH:List Str:=["waits","turn","visit","walked"]
noncomputable abbrev bV:List Nat:=[0,0,0,1]
@[irreducible] noncomputable def f6 (K:W.Frag)(CL:Addr):DS→Out:=(ay (aP 2 (da bV (ac (aF (sD (ab 0)) [none,some 1] (bb 0) (f7 (ac (ab 0) (ab 1) (kC true))) (ab 0)) (kI 0) aM)))
  (ay (aP 3 (da bV (fu pN)))
  (ay (bI (f7 (ac (ab 2) (ab 3) (kC true))) (ay (jO 3 (da bV (ab 2)))
  (aP 2 (da bV (ac (bx (pC (ab 0) (pC (ab 1) (pC (ab 2) pN))) (cn K CL)) (kI 0) aM)))) 41)
  (ca (wx 1 (G_ (ab 3) (oI (ac (ab 3) (ab 2) mJ)) oN))))))
noncomputable def gk (K:W.Frag)(CL:Addr):List D→Res D:=iz 2 kH (f6 K CL)
theorem sc_ring_of:FnScope kH ["waits","turn"] (ag jc):=⟨rfl,rfl,rfl,by decide +kernel,rfl,by decide +kernel,by decide +kernel⟩
theorem kK (T:Txt K mg CL)(S:Sta K mg "ring_of" jc ["waits","turn"])(f8:Cal P w K mg base "held_by" 1 ["waits","turn","visit"] (freshSp K 1 (cn K CL))):Cal P w K mg base "ring_of" 2 ["waits","turn"] (freshSp K 0 (gk K CL)):=by
 refine S.cal (k:=1) (r:=0) (F:=f6 K CL) sc_ring_of bV (by decide) rfl fun f cdv A outer s H E hr=> ?_
 unfold f6
 exact (ah (ax (i:=2) sc_ring_of.nd rfl (.inl rfl) (aE (PN.of (aB (PN.pd (bo (j:=0) rfl (aI (N:=["stuck","turn"]) (caps:=[none,some 1]) (ag jc) kH rfl rfl (by decide +kernel)) rfl rfl (.inl rfl) (rD (dv 0)) (fun _ _ _ _=>eX (a9 (jT hr.units) (dv 0) (dv 1) (by rfl))) (fun _ _ _ _=>(PN.of (dv 0))))) af))))
   (ah (ax (i:=3) sc_ring_of.nd rfl (.inl rfl) (aE (iQ ae)))
   (ah (kh 41 PassesOwn.leaving (a9 (jT hr.units) (dv 2) (dv 3) (by rfl)) (ah (i9 (j:=3) (n:=0) rfl rfl (.inl rfl) (aE (PN.of (dv 2))))
   (am (ax (i:=2) sc_ring_of.nd rfl (.inl rfl) (aE (PN.of (aB (aJ f8 hr (aa (dv 0) (aa (dv 1) (aa (dv 2) ae)))) af)))))))
   (am (bj (PZ.zero (fK (x0 (dv 3) (ka (xP hr.units (dv 3) (dv 2) eW)) j_))))))))
noncomputable abbrev dn:Stmt:=top 25
noncomputable abbrev cY:List Str:=["trains","waits","turn","enters","visit","ready"]
noncomputable abbrev cJ:List Nat:=[0,0,0,1,0,0]
@[irreducible] noncomputable def cT (K:W.Frag)(CL:Addr):DS→Out:=(ay (aP 3 (da cJ (fun _=>Res.ok (.dct [] []))))
  (ay (im (xb cJ (sL (ab 2))) (bb 4) (ay (aP 5 (da cJ (ac (ac (ab 0) (ac (ab 4) (kI 0) aM) aM) (kI 2) aM)))
  (jU 3 (ab 4) (wx 0 (c1 (ac (fu (pC (ab 5) pN)) (aF (sL (ac (ab 1) (ab 4) cu)) [none,some 3] (bb 0) yes (ac (ac (ab 1) (ac (ab 0) (kI 0) aM) cu) (ac (ab 0) (kI 1) aM) aO)) aO) nO)))))
  (ca (ab 3))))
noncomputable def ci (K:W.Frag)(CL:Addr):List D→Res D:=iz 3 cY (cT K CL)
theorem sc_least_enters:FnScope cY ["trains","waits","turn"] (ag dn):=⟨rfl,rfl,rfl,by decide +kernel,rfl,by decide +kernel,by decide +kernel⟩
theorem eK (T:Txt K mg CL)(S:Sta K mg "least_enters" dn ["trains","waits","turn"]):Cal P w K mg base "least_enters" 1 ["trains","waits","turn"] (freshSp K 1 (ci K CL)):=by
 refine S.cal (k:=0) (r:=1) (F:=cT K CL) sc_least_enters cJ (by decide) rfl fun f cdv A outer s H E hr=> ?_
 unfold cT
 exact (ah (ax (i:=3) sc_least_enters.nd rfl (.inr rfl) (aE uQ))
   (ah (i_ (j:=4) PassesOwn.leaving rfl sc_least_enters.nd rfl (.inl rfl) rfl (eA (aU (dv 2)))
    (ah (ax (i:=5) sc_least_enters.nd rfl (.inl rfl) (aE (PN.of (aB (aB (dv 0) (aB (dv 4) af)) af))))
   (am (uN (j:=3) (n:=0) hr.units rfl rfl (.inr (.inl rfl)) (dv 4) (fK (PN.of (uI T.b_max (aj av (qg (aa (dv 5) ae)) (PN.pd (bo (j:=0) rfl (aI (N:=["wait","enters"]) (caps:=[none,some 3]) (ag dn) cY rfl rfl (by decide +kernel)) rfl rfl (.inl rfl) (aU (lS hr.units (dv 1) (dv 4))) (fun _ _ _ _=>aQ) (fun _ _ _ _=>(PN.of (aj av (lS hr.units (dv 1) (aB (dv 0) af)) (aB (dv 0) af))))))))))))))
   (am (gZ (i:=3) rfl rfl (.inr (.inl rfl))))))
noncomputable abbrev kr:Stmt:=top 27
noncomputable abbrev jM:List Str:=["train","path","enters"]
@[irreducible] noncomputable def jK (K:W.Frag)(CL:Addr):DS→Out:=(ca (aF (sL (ab 1)) [none,some 2,some 0] (bb 0) yes (ac (ab 1) (bX (pC (ab 2) (pC (ab 0) pN))) cu)))
noncomputable def gl (K:W.Frag)(CL:Addr):List D→Res D:=iz 3 jM (jK K CL)
theorem wf:FnScope jM ["train","path","enters"] (ag kr):=⟨rfl,rfl,rfl,by decide +kernel,rfl,by decide +kernel,by decide +kernel⟩
theorem mf (T:Txt K mg CL)(S:Sta K mg "row_of" kr ["train","path","enters"]):Cal P w K mg base "row_of" 1 ["train","path","enters"] (freshSp K 1 (gl K CL)):=by
 refine S.cal (k:=0) (r:=1) (F:=jK K CL) wf [] (by decide) rfl fun f cdv A outer s H E hr=> ?_
 unfold jK
 exact (am (bj (aK (bo (j:=0) rfl (aI (N:=["stretch","enters","train"]) (caps:=[none,some 2,some 0]) (ag kr) jM rfl rfl (by decide +kernel)) rfl rfl (.inl rfl) (aU (dv 1)) (fun _ _ _ _=>aQ) (fun _ _ _ _=>(PN.of (lS hr.units (dv 1) (bQ (aa (dv 2) (aa (dv 0) ae))))))))))
noncomputable abbrev h_:Stmt:=top 26
noncomputable abbrev gC:List Str:=["paths","enters"]
@[irreducible] noncomputable def gw (K:W.Frag)(CL:Addr):DS→Out:=(ca (aF (sE (pC (ab 0) pN)) [none,none,some 1] (fq 0 1) yes (bx (pC (ab 0) (pC (ab 1) (pC (ab 2) pN))) (gl K CL))))
noncomputable def eS (K:W.Frag)(CL:Addr):List D→Res D:=iz 2 gC (gw K CL)
theorem rQ:FnScope gC ["paths","enters"] (ag h_):=⟨rfl,rfl,rfl,by decide +kernel,rfl,by decide +kernel,by decide +kernel⟩
theorem js (T:Txt K mg CL)(S:Sta K mg "table_of" h_ ["paths","enters"])(mf:Cal P w K mg base "row_of" 1 ["train","path","enters"] (freshSp K 1 (gl K CL))):Cal P w K mg base "table_of" 2 ["paths","enters"] (freshSp K 2 (eS K CL)):=by
 refine S.cal (k:=1) (r:=2) (F:=gw K CL) rQ [] (by decide) rfl fun f cdv A outer s H E hr=> ?_
 unfold gw
 exact (am (bj (aK (rE (j:=0) (l:=1) rfl (aI (N:=["train","path","enters"]) (caps:=[none,none,some 1]) (ag h_) gC rfl rfl (by decide +kernel)) rfl rfl rfl rfl (.inl rfl) (.inl rfl) (dM rfl T.b_enumerate (aa (dv 0) ae)) (fun _ _ _ _=>aQ) (fun _ _ _ _=>(lA (n:=1) mf hr (aa (dv 0) (aa (dv 1) (aa (dv 2) ae))) dg))))))
noncomputable abbrev fY:Stmt:=top 24
noncomputable abbrev fO:List Str:=["line","trains","orders","paths","waits","turn"]
@[irreducible] noncomputable def cx (K:W.Frag)(CL:Addr):DS→Out:=(ay (aP 3 (bx (pC (ab 0) (pC (ab 1) pN)) (gW K CL)))
  (ay (aP 4 (Ga (bx (pC (ab 0) (pC (ab 3) (pC (ab 2) pN))) (eT K CL))))
  (ay (aP 5 (bx (pC (ab 4) pN) (gj K CL)))
  (ay (lC (f7 (ac (c1 (ab 5) bf) (c1 (ab 4) xz) DJ)) (ca (bX (pC (kS (Str.ofString "ring")) (pC (bx (pC (ab 4) (pC (ab 5) pN)) (gk K CL)) pN)))) nxt)
  (ca (bX (pC (kS (Str.ofString "table")) (pC (bx (pC (ab 3) (pC (Ga (bx (pC (ab 1) (pC (ab 4) (pC (ab 5) pN))) (ci K CL))) pN)) (eS K CL)) pN))))))))
noncomputable def bG (K:W.Frag)(CL:Addr):List D→Res D:=iz 3 fO (cx K CL)
theorem sc_least_table:FnScope fO ["line","trains","orders"] (ag fY):=⟨rfl,rfl,rfl,by decide +kernel,rfl,by decide +kernel,by decide +kernel⟩
theorem fQ (T:Txt K mg CL)(S:Sta K mg "least_table" fY ["line","trains","orders"])(kJ:Cal P w K mg base "in_turn" 3 ["waits"] (freshSp K 1 (gj K CL)))(eK:Cal P w K mg base "least_enters" 1 ["trains","waits","turn"] (freshSp K 1 (ci K CL)))(kK:Cal P w K mg base "ring_of" 2 ["waits","turn"] (freshSp K 0 (gk K CL)))(js:Cal P w K mg base "table_of" 2 ["paths","enters"] (freshSp K 2 (eS K CL)))(jt:Cal P w K mg base "waits_of" 2 ["line","paths","orders"] (freshSp K 2 (eT K CL)))(mh:Cal P w K mg base "ways" 4 ["line","trains"] (freshSp K 0 (gW K CL))):Cal P w K mg base "least_table" 5 ["line","trains","orders"] (freshSp K 0 (bG K CL)):=by
 refine S.cal (k:=4) (r:=0) (F:=cx K CL) sc_least_table [] (by decide) rfl fun f cdv A outer s H E hr=> ?_
 unfold cx
 exact (ah (ax (i:=3) sc_least_table.nd rfl (.inl rfl) (aK (PN.of (aJ mh hr (aa (dv 0) (aa (dv 1) ae))))))
   (ah (ax (i:=4) sc_least_table.nd rfl (.inl rfl) (aK (PN.of (PN.pdF (lA (n:=2) jt hr (aa (dv 0) (aa (dv 3) (aa (dv 2) ae))))))))
   (ah (ax (i:=5) sc_least_table.nd rfl (.inl rfl) (aK (PN.of (aJ kJ hr (aa (dv 4) ae)))))
   (ah (cC (a9 ug (bw T.b_len (dv 5)) (zY T.b_len (dv 4)) (ck _)) (am (bj (aK (PN.of (bQ (aa ti (aa (aJ kK hr (aa (dv 4) (aa (dv 5) ae))) ae))))))) bH)
   (am (bj (aK (PN.of (bQ (aa ti (aa (aJ js hr (aa (dv 3) (aa (PN.pdF (lA (n:=1) eK hr (aa (dv 1) (aa (dv 4) (aa (dv 5) ae))))) ae))) ae)))))))))))
noncomputable abbrev iT:Stmt:=top 42
noncomputable abbrev iB:List Str:=["runs","gap","trains","orders","line","found","told"]
noncomputable abbrev cq:List Nat:=[0,0,0,0,0,1,0]
@[irreducible] noncomputable def fw (K:W.Frag)(CL:Addr):DS→Out:=(ay (aP 4 (da cq (bx (pC (ab 0) (pC (ab 1) pN)) (jj K CL))))
  (ay (aP 5 (da cq (fu (pC (bx (pC (ab 4) (pC (ab 2) pN)) (de K CL)) pN))))
  (ay (aP 6 (da cq (bx (pC (ab 4) (pC (ab 2) (pC (ab 3) pN))) (bG K CL))))
  (ay (lC (f7 (ac (ac (ab 6) (kI 0) aM) (kS (Str.ofString "table")) wv)) (jO 5 (da cq (ac (ab 6) (kI 1) aM))) nxt)
  (ca (ab 5))))))
noncomputable def bS (K:W.Frag)(CL:Addr):List D→Res D:=iz 4 iB (fw K CL)
theorem sc__law_both:FnScope iB ["runs","gap","trains","orders"] (ag iT):=⟨rfl,rfl,rfl,by decide +kernel,rfl,by decide +kernel,by decide +kernel⟩
theorem cN (T:Txt K mg CL)(S:Sta K mg "_law_both" iT ["runs","gap","trains","orders"])(gK:Cal P w K mg base "first_come" 5 ["line","trains"] (freshSp K 2 (de K CL)))(fQ:Cal P w K mg base "least_table" 5 ["line","trains","orders"] (freshSp K 0 (bG K CL)))(c_Line:CalI P w K mg base "Line" CL 2 ["self","runs","clear"] (jj K CL)):Cal P w K mg base "_law_both" 6 ["runs","gap","trains","orders"] (freshSp K 1 (bS K CL)):=by
 refine S.cal (k:=5) (r:=1) (F:=fw K CL) sc__law_both cq (by decide) rfl fun f cdv A outer s H E hr=> ?_
 unfold fw
 exact (ah (ax (i:=4) sc__law_both.nd rfl (.inl rfl) (aE (PN.of (FA c_Line hr (aa (dv 0) (aa (dv 1) ae))))))
   (ah (ax (i:=5) sc__law_both.nd rfl (.inl rfl) (aE (iQ (aa (aJ gK hr (aa (dv 4) (aa (dv 2) ae))) ae))))
   (ah (ax (i:=6) sc__law_both.nd rfl (.inl rfl) (aE (PN.of (aJ fQ hr (aa (dv 4) (aa (dv 2) (aa (dv 3) ae)))))))
   (ah (cC (a9 (om hr.units) (aB (dv 6) af) ti (ck _)) (am (i9 (j:=5) (n:=0) rfl rfl (.inl rfl) (aE (PN.of (aB (dv 6) af))))) bH)
   (am (gZ (i:=5) rfl rfl (.inl rfl)))))))
noncomputable abbrev fL:Stmt:=top 43
noncomputable abbrev fy:List Str:=["found","times","more"]
@[irreducible] noncomputable def fx (K:W.Frag)(CL:Addr):DS→Out:=(ca (aF (sL (ab 0)) [none,some 2,some 1] (bb 0) yes (aF (sL (ab 0)) [none,some 1,some 2] (bb 0) yes (aF (sL (ab 0)) [none,some 1,some 2] (bb 0) yes (ac (ac (ab 2) (ab 0) b_) (ab 1) aO)))))
noncomputable def cO (K:W.Frag)(CL:Addr):List D→Res D:=iz 3 fy (fx K CL)
theorem qr:FnScope fy ["found","times","more"] (ag fL):=⟨rfl,rfl,rfl,by decide +kernel,rfl,by decide +kernel,by decide +kernel⟩
theorem fD (T:Txt K mg CL)(S:Sta K mg "_law_each" fL ["found","times","more"]):Cal P w K mg base "_law_each" 1 ["found","times","more"] (freshSp K 0 (cO K CL)):=by
 refine S.cal (k:=0) (r:=0) (F:=fx K CL) qr [] (by decide) rfl fun f cdv A outer s H E hr=> ?_
 unfold fx
 exact (am (bj (aK (PN.of (PN.pd (bo (j:=0) rfl (aI (N:=["table","more","times"]) (caps:=[none,some 2,some 1]) (ag fL) fy rfl rfl (by decide +kernel)) rfl rfl (.inl rfl) (aU (dv 0)) (fun _ _ _ _=>aQ) (fun _ _ _ _=>(PN.of (PN.pd (bo (j:=0) rfl (jR (N:=["row","more","times"]) (caps:=[none,some 1,some 2]) (by decide +kernel)) rfl rfl (.inl rfl) (aU (dv 0)) (fun _ _ _ _=>aQ) (fun _ _ _ _=>(PN.of (PN.pd (bo (j:=0) rfl (jR (N:=["minute","more","times"]) (caps:=[none,some 1,some 2]) (by decide +kernel)) rfl rfl (.inl rfl) (aU (dv 0)) (fun _ _ _ _=>aQ) (fun _ _ _ _=>(PN.of (aj av (aj bB (dv 2) (dv 0)) (dv 1))))))))))))))))))
noncomputable abbrev gr:Stmt:=top 44
noncomputable abbrev jL:List Str:=["script","made","runs","gap","many","trains","orders","due","other","twice","later"]
@[irreducible] noncomputable def t6 (K:W.Frag)(CL:Addr):DS→Out:=(ay (aP 1 (bx (pC (ab 0) (pC (kI 0) pN)) (cf K CL)))
  (ay (aP 2 (aF (sL (ac (ab 1) (kI 0) aM)) [none] (bb 0) yes (ac (kI 1) (ac (ab 0) (kI 10) kY) aO)))
  (ay (aP 3 (ac (ac (ab 1) (kI 1) aM) (kI 2) jX))
  (ay (aP 4 (c1 (ab 2) bf))
  (ay (aP 5 (aF (sL (bx (pC (ab 0) (pC (kI 20) (pC (ab 4) (pC (kI 5) pN)))) (bc K CL))) [none] (bb 0) yes (bX (pC (ac (ab 0) (kI 0) aM) (pC (ac (ab 0) (kI 1) aM) (pC (ac (ac (ab 0) (kI 2) aM) (kI 2) jX) pN))))))
  (ay (aP 6 (bx (pC (ab 0) (pC (kI 100) (pC (ab 2) (pC (ab 3) (pC (ab 5) pN))))) (aY K CL)))
  (ay (aP 7 (bx (pC (ab 2) (pC (ab 3) (pC (ab 5) (pC (ab 6) pN)))) (bS K CL)))
  (ay (aP 8 (aF (sL (ab 5)) [none,some 4] (bb 0) yes (bX (pC (ac (ab 1) (ac (ab 0) (kI 0) aM) jI) (pC (ac (ab 1) (ac (ab 0) (kI 1) aM) jI) (pC (ac (ab 0) (kI 2) aM) pN))))))
  (ay (lC (f7 (ac (bx (pC (ac (ab 2) (nG (kI 1)) k9) (pC (ab 3) (pC (ab 8) (pC (ac (ab 6) (nG (kI 1)) k9) pN)))) (bS K CL)) (ab 7) vW)) (ca (kB false)) nxt)
  (ay (aP 9 (aF (sL (ab 5)) [none] (bb 0) yes (bX (pC (ac (ab 0) (kI 0) aM) (pC (ac (ab 0) (kI 1) aM) (pC (ac (kI 2) (ac (ab 0) (kI 2) aM) b_) pN))))))
  (ay (lC (f7 (ac (bx (pC (aF (sL (ab 2)) [none] (bb 0) yes (ac (kI 2) (ab 0) b_)) (pC (ac (kI 2) (ab 3) b_) (pC (ab 9) (pC (ab 6) pN)))) (bS K CL)) (bx (pC (ab 7) (pC (kI 2) (pC (kI 0) pN))) (cO K CL)) vW)) (ca (kB false)) nxt)
  (ay (aP 10 (aF (sL (ab 5)) [none] (bb 0) yes (bX (pC (ac (ab 0) (kI 0) aM) (pC (ac (ab 0) (kI 1) aM) (pC (ac (ac (ab 0) (kI 2) aM) (kI 10) aO) pN))))))
  (ca (ac (bx (pC (ab 2) (pC (ab 3) (pC (ab 10) (pC (ab 6) pN)))) (bS K CL)) (bx (pC (ab 7) (pC (kI 1) (pC (kI 10) pN))) (cO K CL)) wv))))))))))))))
noncomputable def xB (K:W.Frag)(CL:Addr):List D→Res D:=iz 1 jL (t6 K CL)
theorem sc_law:FnScope jL ["script"] (ag gr):=⟨rfl,rfl,rfl,by decide +kernel,rfl,by decide +kernel,by decide +kernel⟩
theorem DR {f:Addr}{fd:FuncData}(T:Txt K mg CL)(Fn:Fun K "law" "law" gr f fd)(cN:Cal P w K mg base "_law_both" 6 ["runs","gap","trains","orders"] (freshSp K 1 (bS K CL)))(fD:Cal P w K mg base "_law_each" 1 ["found","times","more"] (freshSp K 0 (cO K CL)))(eG:Cal P w K mg base "_law_line_by" 2 ["script","base"] (freshSp K 0 (cf K CL)))(dw:Cal P w K mg base "_law_orders_by" 3 ["script","base","runs","gap","trains"] (freshSp K 2 (aY K CL)))(dz:Cal P w K mg base "_law_trains_by" 2 ["script","base","stretches","most"] (freshSp K 1 (bc K CL))):FnOk P w K mg base (CXF P w) 7 f fd ["script"] (freshSp K 0 (xB K CL)):=by
 refine Fn.freshM (k:=6) (r:=0) (F:=t6 K CL) sc_law [] (by decide) rfl fun cdv A outer s H E l=> ?_
 unfold t6
 exact (ah (ax (i:=1) sc_law.nd rfl (.inl rfl) (aK (PN.of (aJ eG l (aa (dv 0) (aa af ae))))))
   (ah (kg (dN sc_law.nd (i:=2) rfl rfl rfl (aI (N:=["run"]) (caps:=[none]) (ag gr) jL rfl rfl (by decide +kernel)) (j:=0) rfl rfl (.inl rfl) (aU (aB (dv 1) af)) (fun _ _ _ _=>aQ) (fun _ _ _ _=>(PN.of (aj av af (aj jw (dv 0) af))))) rfl)
   (ah (ax (i:=3) sc_law.nd rfl (.inl rfl) (aK (PN.of (aj pD (aB (dv 1) af) af))))
   (ah (ax (i:=4) sc_law.nd rfl (.inr rfl) (aK (PN.of (bw T.b_len (dv 2)))))
   (ah (kg (dN sc_law.nd (i:=5) rfl rfl rfl (aI (N:=["train"]) (caps:=[none]) (ag gr) jL rfl rfl (by decide +kernel)) (j:=0) rfl rfl (.inl rfl) (aU (aJ dz l (aa (dv 0) (aa af (aa (dv 4) (aa af ae)))))) (fun _ _ _ _=>aQ) (fun _ _ _ _=>(PN.of (bQ (aa (aB (dv 0) af) (aa (aB (dv 0) af) (aa (aj pD (aB (dv 0) af) af) ae))))))) rfl)
   (ah (ax (i:=6) sc_law.nd rfl (.inl rfl) (aK (PN.of (aJ dw l (aa (dv 0) (aa af (aa (dv 2) (aa (dv 3) (aa (dv 5) ae)))))))))
   (ah (ax (i:=7) sc_law.nd rfl (.inl rfl) (aK (PN.of (aJ cN l (aa (dv 2) (aa (dv 3) (aa (dv 5) (aa (dv 6) ae))))))))
   (ah (kg (dN sc_law.nd (i:=8) rfl rfl rfl (aI (N:=["train","many"]) (caps:=[none,some 4]) (ag gr) jL rfl rfl (by decide +kernel)) (j:=0) rfl rfl (.inl rfl) (aU (dv 5)) (fun _ _ _ _=>aQ) (fun _ _ _ _=>(PN.of (bQ (aa (aj jz (dv 1) (aB (dv 0) af)) (aa (aj jz (dv 1) (aB (dv 0) af)) (aa (aB (dv 0) af) ae))))))) rfl)
   (ah (cC (a9 (qM l.units) (aJ cN l (aa (PN.pd (tz (dv 2) (m7 af))) (aa (dv 3) (aa (dv 8) (aa (PN.pd (tz (dv 6) (m7 af))) ae))))) (dv 7) (ck _)) (am (bj (aK (PN.of Bo)))) bH)
   (ah (kg (dN sc_law.nd (i:=9) rfl rfl rfl (aI (N:=["train"]) (caps:=[none]) (ag gr) jL rfl rfl (by decide +kernel)) (j:=0) rfl rfl (.inl rfl) (aU (dv 5)) (fun _ _ _ _=>aQ) (fun _ _ _ _=>(PN.of (bQ (aa (aB (dv 0) af) (aa (aB (dv 0) af) (aa (aj bB af (aB (dv 0) af)) ae))))))) rfl)
   (ah (cC (a9 (qM l.units) (aJ cN l (aa (PN.pd (bo (j:=0) rfl (aI (N:=["run"]) (caps:=[none]) (ag gr) jL rfl rfl (by decide +kernel)) rfl rfl (.inl rfl) (aU (dv 2)) (fun _ _ _ _=>aQ) (fun _ _ _ _=>(PN.of (aj bB af (dv 0)))))) (aa (aj bB af (dv 3)) (aa (dv 9) (aa (dv 6) ae))))) (aJ fD l (aa (dv 7) (aa af (aa af ae)))) (ck _)) (am (bj (aK (PN.of Bo)))) bH)
   (ah (kg (dN sc_law.nd (i:=10) rfl rfl rfl (aI (N:=["train"]) (caps:=[none]) (ag gr) jL rfl rfl (by decide +kernel)) (j:=0) rfl rfl (.inl rfl) (aU (dv 5)) (fun _ _ _ _=>aQ) (fun _ _ _ _=>(PN.of (bQ (aa (aB (dv 0) af) (aa (aB (dv 0) af) (aa (aj av (aB (dv 0) af) af) ae))))))) rfl)
   (am (bj (aK (PN.of (CU (om l.units) (aJ cN l (aa (dv 2) (aa (dv 3) (aa (dv 10) (aa (dv 6) ae))))) (aJ fD l (aa (dv 7) (aa af (aa af ae)))) (ck _))))))))))))))))))
end
end K11
set_option maxHeartbeats 1000000
namespace K11
open PySem L2
section
variable{K:W.Frag}{CL:Addr}
theorem cz {ns:List Int}{k many:Int}(h0:0≤k)(h1:k < 100000)(h2:0 < many)(h3:many < 100000):al K CL [.scr ns,.int k,.int many]= .ok (.int (drawn ns k many)):=by
 unfold al
 refine (bz rfl).trans ?_
 have e0:aH gz [D.scr ns,.int k,.int many]=[some (.scr ns),some (.int k),some (.int many),none,none]:=rfl
 rw [e0]
 unfold dU
 have st1:= @AK ns k
 by_cases hz:ns.length=0
 ·have hd:decide (0 < (ns.length:Int))=false:=decide_eq_false (by omega)
  have hc7:cellOf ns k=7:=if_pos hz
  have e1:(7 * 48271+(k+1) * 7919+(ns.length:Int)) % 2147483647=nu ns k:=by unfold nu; rw [hc7]
  simp (disch:=omega) only [aR,pO,hd,jW,mE,pL,e1]
  rfl
 ·have hd:decide (0 < (ns.length:Int))=true:=decide_eq_true (by omega)
  have hix:=yZ (k:=k) hz
  have e1:(cellOf ns k * 48271+(k+1) * 7919+(ns.length:Int)) % 2147483647=nu ns k:=rfl
  simp (disch:=omega) only [aR,pO,hd,jW,mE,pL,BZ hix,e1]
  rfl
theorem FC {k:Int}(h:0≤k∧k < 2):∃ v:Int,(v=4∨v=20)∧aM (.lst [.int 4,.int 20]) (.int k)= .ok (.int v):=by
 rcases (show k=0∨k=1 by omega) with rfl | rfl
 ·exact ⟨4,.inl rfl,wU⟩
 ·exact ⟨20,.inr rfl,wV⟩
theorem FD {k:Int}(h:0≤k∧k < 3):∃ v:Int,1≤v∧v≤61∧aM (.lst [.int 1,.int 9,.int 61]) (.int k)= .ok (.int v):=by
 rcases (show k=0∨k=1∨k=2 by omega) with rfl | rfl | rfl
 ·exact (ik 1 (by omega) (by omega) wU)
 ·exact (ik 9 (by omega) (by omega) wV)
 ·exact (ik 61 (by omega) (by omega) (mD (jq (by decide) rfl)))
structure GoodLine (rs:List Int)(g:Int):Prop where
 one:1≤rs.length
 few:rs.length≤5
 run:∀ r∈rs,1≤r∧r≤20
 gap:0≤g∧g≤5
theorem vQ {ns:List Int}{base:Int}(h0:0≤base)(h1:base < 1000):∃ rs g,GoodLine rs g∧cf K CL [.scr ns,.int base]= .ok (.tup [.lst (rs.map D.int),.int g]):=by
 have b1:=d9 (ns:=ns) (k:=base) (many:=5) (by omega)
 obtain ⟨m,em⟩:∃ m:Nat,1+drawn ns base 5=(m:Int):=⟨(1+drawn ns base 5).toNat,by omega⟩
 obtain ⟨v,hv,ev⟩:=FC (d9 (ns:=ns) (k:=base+1) (many:=2) (by omega))
 refine (kQ ((List.range m).map fun (i:Nat)=>1+drawn ns (base+2+(i:Int)) v) (drawn ns (base+8) 6) ⟨by rw [List.length_map,List.length_range]; omega,by rw [List.length_map,List.length_range]; omega,fun r hr=> ?_,?_⟩ ?_)
 ·obtain ⟨i,_,rfl⟩:=List.mem_map.mp hr
  have:=d9 (ns:=ns) (k:=base+2+(i:Int)) (many:=v) (by omega)
  omega
 ·have:=d9 (ns:=ns) (k:=base+8) (many:=6) (by omega)
  omega
 ·unfold cf
  refine (bz rfl).trans ?_
  have e0:aH cW [D.scr ns,.int base]=[some (.scr ns),some (.int base),none,none]:=rfl
  rw [e0]
  unfold cR
  have d1:=cz (K:=K) (CL:=CL) (ns:=ns) (k:=base) (many:=5) (by omega) (by omega) (by omega) (by omega)
  have d2:=cz (K:=K) (CL:=CL) (ns:=ns) (k:=base+1) (many:=2) (by omega) (by omega) (by omega) (by omega)
  have d3:=cz (K:=K) (CL:=CL) (ns:=ns) (k:=base+8) (many:=6) (by omega) (by omega) (by omega) (by omega)
  simp only [aR,d1,em]
  rw [aT (xs:=List.range m) (c:=fun (i:Nat)=>D.int (i:Int)) (g:=fun (i:Nat)=>D.int (1+drawn ns (base+2+(i:Int)) v)) (by simp only [aR,gN (show m < 1000000 by omega)]) (by rw [List.length_range]; omega) (fun i hi=>⟨_,rfl,?_⟩)]
  ·simp only [aR,d3,List.map_map]
   rfl
  ·have hi:=List.mem_range.mp hi
   have d4:=cz (K:=K) (CL:=CL) (ns:=ns) (k:=base+2+(i:Int)) (many:=v) (by omega) (by omega) (by omega) (by omega)
   have ec:c_ [none,some 0,some 1] [some (D.scr ns),some (D.int base),some (D.int (m:Int)),none]=[none,some (.scr ns),some (.int base)]:=rfl
   rw [ec]
   simp only [aR,d2,ev,d4]
end
set_option maxHeartbeats 1000000
section
variable{K:W.Frag}{CL:Addr}
noncomputable abbrev Tr:=Nat×Nat×Int
noncomputable def a8 (t:Tr):D:= .tup [.int t.1,.int t.2.1,.int t.2.2]
structure Good (n:Nat)(t:Tr):Prop where
 a:t.1≤n
 b:t.2.1≤n
 ne:t.1≠t.2.1
 r:0≤t.2.2∧t.2.2≤60
noncomputable def az (t:Tr):List Nat:=if t.1 < t.2.1 then (List.range (t.2.1 - t.1)).map (t.1 + ·) else ((List.range (t.1 - t.2.1)).map (t.2.1 + ·)).reverse
noncomputable def au (l:List Nat):List D:=l.map fun (i:Nat)=>D.int (i:Int)
theorem cr {n:Nat}{t:Tr}(g:Good n t):∀ s∈az t,s < n:=by
 intro s hs
 have:=g.a; have:=g.b
 unfold az at hs
 split at hs
 ·obtain ⟨i,hi,rfl⟩:=List.mem_map.mp hs
  have:=List.mem_range.mp hi
  omega
 ·obtain ⟨i,hi,rfl⟩:=List.mem_map.mp (List.mem_reverse.mp hs)
  have:=List.mem_range.mp hi
  omega
theorem ie {t:Tr}:(az t).Nodup:=by
 have go:∀ a n:Nat,((List.range n).map (a + ·)).Nodup:=fun a n=>by
  refine List.Pairwise.map _ (fun x y h=> ?_) (List.nodup_range (n:=n))
  intro z; exact h (by omega)
 unfold az
 split
 ·exact go _ _
 ·exact (List.pairwise_reverse.mpr ((go _ _).imp fun h z=>h z.symm))
theorem fm {n:Nat}{t:Tr}(g:Good n t):(az t).length≤n:=by
 have:=g.a; have:=g.b
 unfold az
 split
 ·rw [List.length_map,List.length_range]; omega
 ·rw [List.length_reverse,List.length_map,List.length_range]; omega
theorem kl {a b:Nat}:nk (a:Int) ((b:Int) - (a:Int)).toNat=au ((List.range (b - a)).map (a + ·)):=by
 unfold nk au
 have e:((b:Int) - (a:Int)).toNat=b - a:=by omega
 rw [e,List.map_map]
 refine List.map_congr_left fun i _=> ?_
 show D.int ((a:Int)+(i:Int))=D.int (((a+i:Nat)):Int)
 congr 1
theorem rM {a b:Nat}(h:b < a):qn ((a:Int) - 1) (((a:Int) - 1) - ((b:Int) - 1)).toNat=au ((List.range (a - b)).map (b + ·)).reverse:=by
 have e:(((a:Int) - 1) - ((b:Int) - 1)).toNat=a - b:=by omega
 unfold qn au
 rw [e]
 apply List.ext_getElem
 ·simp
 ·intro i h1 h2
  simp only [List.length_map,List.length_range,List.length_reverse] at h1 h2
  simp only [List.getElem_map,List.getElem_range,List.getElem_reverse,List.length_map,List.length_range]
  congr 1
  omega
theorem vN {n:Nat}{t:Tr}(g:Good n t)(hn:n≤1000):bv K CL [a8 t]= .ok (.lst (au (az t))):=by
 have ha:=g.a; have hb:=g.b
 obtain ⟨a,b,r⟩:=t
 unfold bv
 refine (bz rfl).trans ?_
 have e0:aH eE [a8 (a,b,r)]=[some (.tup [.int a,.int b,.int r])]:=rfl
 rw [e0]
 unfold gu
 have cp:∀ x y:Nat,x≤1000→y≤1000→∀ ρ:DS,(sR2 (pC (kI x) (pC (kI y) pN))) ρ= .ok (au ((List.range (y - x)).map (x + ·))):=fun x y hx hy ρ=>by
  simp only [aR,pP (show -1000000≤(x:Int) by omega) (show (x:Int) < 1000000 by omega) (show -1000000≤(y:Int) by omega) (show (y:Int) < 1000000 by omega),kl]
 simp only [aR]
 dsimp only at ha hb
 by_cases hab:a < b
 ·have e1:decide ((a:Int) < (b:Int))=true:=decide_eq_true (by omega)
  simp only [aR,e1]
  rw [aT (xs:=(List.range (b - a)).map (a + ·)) (c:=fun (i:Nat)=>D.int (i:Int)) (g:=fun (i:Nat)=>D.int (i:Int)) (by
   simp only [aR,pP (show -1000000≤(a:Int) by omega) (show (a:Int) < 1000000 by omega) (show -1000000≤(b:Int) by omega) (show (b:Int) < 1000000 by omega),kl]; rfl) (by rw [List.length_map,List.length_range]; omega) (fun i hi=>⟨_,rfl,rfl⟩)]
  simp only [aR]
  unfold az
  rw [if_pos (show (a,b,r).1 < (a,b,r).2.1 from hab)]
  rfl
 ·have e1:decide ((a:Int) < (b:Int))=false:=decide_eq_false (by omega)
  simp only [aR,e1]
  rw [aT (xs:=(List.range (a - b)).map (b + ·)) (c:=fun (i:Nat)=>D.int (i:Int)) (g:=fun (i:Nat)=>D.int (i:Int)) (by
   simp only [aR,pP (show -1000000≤(b:Int) by omega) (show (b:Int) < 1000000 by omega) (show -1000000≤(a:Int) by omega) (show (a:Int) < 1000000 by omega),kl]; rfl) (by rw [List.length_map,List.length_range]; omega) (fun i hi=>⟨_,rfl,rfl⟩)]
  simp only [aR]
  have e2:∀ l:List D,k9 (.lst l) (.int (-1))= .ok (.lst l.reverse):=fun l=>by unfold k9; rfl
  simp only [aR,e2]
  unfold az au
  rw [if_neg (show ¬ (a,b,r).1 < (a,b,r).2.1 from hab),List.map_reverse]
theorem CF {n s d:Nat}(hs:s≤n)(hd:d < n):(s+1+d) % (n+1)≠s:=by
 by_cases h:s+1+d < n+1
 ·rw [Nat.mod_eq_of_lt h]; omega
 ·have:(s+1+d) % (n+1)=s+1+d - (n+1):=by
   rw [Nat.mod_eq_sub_mod (by omega),Nat.mod_eq_of_lt (by omega)]
  omega
theorem kb {base:Int}{i:Nat}(c:Int)(h0:0≤base)(h1:base < 1000)(hi:i < 5)(hc:0≤c∧c≤40):0≤base+c+5 * (i:Int)∧base+c+5 * (i:Int) < 2000:=by omega
theorem rY {ns:List Int}{base most:Int}{n:Nat}(h0:0≤base)(h1:base < 1000)(hn:1≤n)(hn5:n≤5)(hm:1≤most)(hm5:most≤5) :
  ∃ ts:List Tr,(ts.length:Int)=1+drawn ns base most∧(∀ t∈ts,Good n t)∧bc K CL [.scr ns,.int base,.int n,.int most]= .ok (.lst (ts.map a8)):=by
 have b1:=d9 (ns:=ns) (k:=base) (many:=most) (by omega)
 obtain ⟨m,em⟩:∃ m:Nat,1+drawn ns base most=(m:Int):=⟨(1+drawn ns base most).toNat,by omega⟩
 have dr:∀ k many:Int,0≤k→k < 2000→0 < many→many < 1000→∃ a:Nat,(a:Int)=drawn ns k many∧(a:Int) < many∧al K CL [.scr ns,.int k,.int many]= .ok (.int (a:Int)):=fun k many k0 k1 m0 m1=>by
  have:=d9 (ns:=ns) (k:=k) (many:=many) m0
  refine ⟨(drawn ns k many).toNat,by omega,by omega,?_⟩
  rw [Int.toNat_of_nonneg this.1]
  exact cz k0 (by omega) m0 (by omega)
 suffices goal:∃ d,bc K CL [.scr ns,.int base,.int n,.int most]= .ok d∧∃ ts:List Tr,d= .lst (ts.map a8)∧ts.length=m∧∀ t∈ts,Good n t by
  obtain ⟨_,e,ts,rfl,hl,hg⟩:=goal
  exact ⟨ts,by omega,hg,e⟩
 have n1:0 < (n:Int)+1:=by omega
 have n2:(n:Int)+1 < 1000:=by omega
 have n3:0 < (n:Int):=by omega
 have n4:(n:Int) < 1000:=by omega
 have b40:0≤base+40∧base+40 < 2000:=by omega
 unfold bc
 rw [show iz 4 bL (br K CL) [D.scr ns,D.int base,D.int n,D.int most]=fv (br K CL (aH bL [D.scr ns,D.int base,D.int n,D.int most])) from bz rfl]
 have e0:aH bL [D.scr ns,.int base,.int n,.int most]=[some (.scr ns),some (.int base),some (.int n),some (.int most),none,none,none,none]:=rfl
 rw [e0]
 unfold br
 have d1:=cz (K:=K) (CL:=CL) (ns:=ns) (k:=base) (many:=most) (by omega) (by omega) (by omega) (by omega)
 simp only [aR,d1,em,gN (show m < 1000000 by omega)]
 refine vA (fun rem ρ=>∃ ts:List Tr,ts.length+rem.length=m∧(∀ t∈ts,Good n t)∧∃ o5 o6 o7,ρ=[some (.scr ns),some (.int base),some (.int n),some (.int most),some (.lst (ts.map a8)),o5,o6,o7]∧∀ d∈rem,∃ i:Nat,i < m∧d= .int i)
  ⟨[],by simp,fun _ h=>(by cases h),none,none,none,rfl,fun d hd=> ?_⟩ (fun d ds ρ ⟨ts,hl,hg,o5,o6,o7,e,hd⟩=> ?_) (fun P ⟨ts,hl,hg,o5,o6,o7,e,_⟩=> ?_)
 ·obtain ⟨i,hi,rfl⟩:=List.mem_map.mp hd
  exact ⟨i,List.mem_range.mp hi,rfl⟩
 ·refine cps fun PP kP=> ?_
  subst e
  obtain ⟨i,hi,rfl⟩:=hd d (List.mem_cons_self ..)
  rw [List.length_cons] at hl
  have p:i < 5:=by omega
  obtain ⟨s,_,hs,es⟩:=dr (base+1+5 * (i:Int)) ((n:Int)+1) (kb 1 h0 h1 p (by decide)).1 (kb 1 h0 h1 p (by decide)).2 n1 n2
  obtain ⟨x,_,hx,ex⟩:=dr (base+2+5 * (i:Int)) (n:Int) (kb 2 h0 h1 p (by decide)).1 (kb 2 h0 h1 p (by decide)).2 n3 n4
  obtain ⟨c,_,hc,ec⟩:=dr (base+3+5 * (i:Int)) 3 (kb 3 h0 h1 p (by decide)).1 (kb 3 h0 h1 p (by decide)).2 (by decide) (by decide)
  obtain ⟨y,_,hy,ey⟩:=dr (base+4+5 * (i:Int)) 2 (kb 4 h0 h1 p (by decide)).1 (kb 4 h0 h1 p (by decide)).2 (by decide) (by decide)
  obtain ⟨z,_,hz,ez⟩:=dr (base+40) 3 b40.1 b40.2 (by decide) (by decide)
  obtain ⟨v,v0,v1,ev⟩:=FD (k:=(z:Int)) ⟨Int.natCast_nonneg z,hz⟩
  obtain ⟨r,_,hr,er⟩:=dr (base+5+5 * (i:Int)) v (kb 5 h0 h1 p (by decide)).1 (kb 5 h0 h1 p (by decide)).2 v0 (Int.lt_of_le_of_lt v1 (by decide))
  refine kP ?_; clear kP PP
  have r60:0≤(r:Int)∧(r:Int)≤60:=⟨Int.natCast_nonneg r,by omega⟩
  have sn:s≤n:=by omega
  have xn:x < n:=by omega
  have eg:((s:Int)+1+(x:Int)) % ((n:Int)+1)=(((s+1+x) % (n+1):Nat):Int):=by push_cast; rfl
  have g1:Good n (s,(s+1+x) % (n+1),(r:Int)):=⟨sn,Nat.le_of_lt_succ (Nat.mod_lt (s+1+x) (Nat.succ_pos n)),fun h=>CF sn xn h.symm,r60⟩
  have step:∀ (a b:Nat) (o:Option D),Good n (a,b,(r:Int))→∃ P,jO 4 (da aS (bX (pC (ab 6) (pC (ab 7) (pC (bx (pC (ab 0) (pC (ac (ac (ab 1) (kI 5) aO) (ac (kI 5) (ab 5) b_) aO) (pC (ac (fu (pC (kI 1) (pC (kI 9) (pC (kI 61) pN)))) (bx (pC (ab 0) (pC (ac (ab 1) (kI 40) aO) (pC (kI 3) pN))) (al K CL)) aM) pN))) (al K CL)) pN)))))
    [some (.scr ns),some (.int base),some (.int n),some (.int most),some (.lst (ts.map a8)),some (.int i),some (.int a),some (.int b)]= .nx P∧P=[some (.scr ns),some (.int base),some (.int n),some (.int most),some (.lst ((ts ++ [(a,b,(r:Int))]).map a8)),some (.int i),some (.int a),some (.int b)]:=fun a b o g=>by
   refine ⟨_,pK (l:=ts.map a8) (d:=a8 (a,b,(r:Int))) rfl ?_ (by rw [List.length_map]; omega),?_⟩
   ·simp (disch:=omega) only [aR,f9,ez,ev,er]
    rfl
   ·rw [List.map_append]; rfl
  have hd':∀ x∈ds,∃ i:Nat,i < m∧x= .int i:=fun x hx=>hd x (cI hx)
  have fin:∀ (a b:Nat),Good n (a,b,(r:Int))→∃ ts':List Tr,ts'.length+ds.length=m∧(∀ t∈ts',Good n t)∧∃ o5 o6 o7,[some (D.scr ns),some (.int base),some (.int n),some (.int most),some (.lst ((ts ++ [(a,b,(r:Int))]).map a8)),some (.int i),some (.int a),some (.int b)]=[some (.scr ns),some (.int base),some (.int n),some (.int most),some (.lst (ts'.map a8)),o5,o6,o7]∧∀ d∈ds,∃ i:Nat,i < m∧d= .int i:=fun a b g=>
   ⟨ts ++ [(a,b,(r:Int))],by rw [List.length_append]; simp; omega,fun t ht=>by
    rcases List.mem_append.mp ht with h | h
    ·exact hg t h
    ·rw [List.mem_singleton.mp h]; exact g,_,_,_,rfl,hd'⟩
  by_cases hc1:c=1
  ·have e1:((c:Int) == 1)=true:=by rw [hc1]; rfl
   have g2:Good n (y * n,n - y * n,(r:Int)):=by
    have:y=0∨y=1:=by omega
    rcases this with rfl | rfl
    ·exact ⟨by simp,by simp,by simp; omega,r60⟩
    ·exact ⟨by simp,by simp,by simp; omega,r60⟩
   have e2:(y:Int) * (n:Int)=((y * n:Nat):Int):=by push_cast; rfl
   have e3:(n:Int) - ((y * n:Nat):Int)=((n - y * n:Nat):Int):=by have:=g2.a; dsimp only at this; omega
   obtain ⟨P,h1,h2⟩:=step (y * n) (n - y * n) none g2
   refine ⟨_,P,rfl,?_,by rw [h2]; exact fin _ _ g2⟩
   simp (disch:=omega) only [aR,f9,es,ex,ec,ey,eg,e1,jW,e2,e3,mE]
   exact h1
  ·have e1:((c:Int) == 1)=false:=beq_eq_false_iff_ne.mpr (by omega)
   obtain ⟨P,h1,h2⟩:=step s ((s+1+x) % (n+1)) none g1
   refine ⟨_,P,rfl,?_,by rw [h2]; exact fin _ _ g1⟩
   simp (disch:=omega) only [aR,f9,es,ex,ec,eg,e1,mE]
   exact h1
 ·subst e
  refine ⟨_,rfl,ts,rfl,hl,hg⟩
end
set_option maxHeartbeats 1000000
section
variable{K:W.Frag}{CL:Addr}
noncomputable def aN (CL:Addr)(rs:List Int)(g:Int):D:= .ins CL ["minutes","gap"] [.tup (rs.map D.int),.int g]
theorem ja {rs:List Int}{g:Int}:gi CL [aN CL rs g]= .ok (.lst (rs.map D.int)):=by
 unfold gi aN jY
 dsimp only
 rw [if_pos rfl]
 rfl
theorem mr {rs:List Int}{g:Int}:gU CL [aN CL rs g]= .ok (.int g):=by
 unfold gU aN jY
 dsimp only
 rw [if_pos rfl]
 have:qZ ["minutes","gap"] [.tup (rs.map D.int),.int g] "gap" =some (.int g):=by
  unfold qZ
  rw [if_neg (by decide +kernel)]
  unfold qZ
  rw [if_pos rfl]
 rw [this]
theorem xm {rs:List Int}{g:Int}{m:Str}(h:(["minutes","gap"]:List Str).contains m=false):ll CL m (aN CL rs g)=true:=by
 unfold ll aN
 dsimp only
 rw [h]
 simp
theorem Gc {rs:List Int}{g:Int}:ll CL "runs" (aN CL rs g)=true:=xm (by decide +kernel)
theorem HF {rs:List Int}{g:Int}:ll CL "clear" (aN CL rs g)=true:=xm (by decide +kernel)
theorem zD {rs:List Int}{g:Int}(h:GoodLine rs g):jj K CL [.lst (rs.map D.int),.int g]= .ok (aN CL rs g):=by
 have e:bm K CL [.lst (rs.map D.int),.int g]= .ok .non:=by
  unfold bm
  refine (bz rfl).trans ?_
  have e0:aH gA [D.lst (rs.map D.int),.int g]=[some (.lst (rs.map D.int)),some (.int g),none]:=rfl
  rw [e0]
  unfold dY
  have h1:=h.one; have h2:=h.few; have h3:=h.gap
  have q1:decide (1≤(rs.length:Int))=true:=decide_eq_true (by omega)
  have q2:decide ((rs.length:Int)≤5)=true:=decide_eq_true (by omega)
  simp only [aR,q1,q2]
  refine qY (fun rem ρ=>(∀ d∈rem,∃ r:Int,(1≤r∧r≤20)∧d= .int r)∧∃ o,ρ=[some (.lst (rs.map D.int)),some (.int g),o]) ⟨fun d hd=> ?_,none,rfl⟩ (fun d ds ρ hZ156=> ?_) (fun ρ' hZ157=> ?_)
  ·obtain ⟨r,hr,rfl⟩:=List.mem_map.mp hd
   exact ⟨r,h.run r hr,rfl⟩
  ·refine cps fun PP kP=> ?_
   obtain ⟨hd,o,e⟩:=hZ156
   subst e
   obtain ⟨r,hr,rfl⟩:=hd d (List.mem_cons_self ..)
   refine kP ?_; clear kP PP
   refine (Fd _ _ rfl ?_ (fun x hx=>hd x (cI hx)) (some (.int r)) rfl)
   have q3:decide (1≤r)=true:=decide_eq_true hr.1
   have q4:decide (r≤20)=true:=decide_eq_true hr.2
   simp only [aR,q3,q4]
  ·obtain ⟨_,o,e⟩:=hZ157
   subst e
   have q3:decide (0≤g)=true:=decide_eq_true h3.1
   have q4:decide (g≤5)=true:=decide_eq_true h3.2
   simp only [aR,q3,q4]
 unfold jj
 dsimp only
 rw [e,ar]
 rfl
theorem nE {rs:List Int}{g:Int}{t:Tr}(h:Good rs.length t):b7 K CL [aN CL rs g,a8 t]= .ok .non:=by
 obtain ⟨a,b,r⟩:=t
 have ha:=h.a; have hb:=h.b; have hr:=h.r; have hn:=h.ne
 dsimp only at ha hb hr hn
 unfold b7
 refine (bz rfl).trans ?_
 have e0:aH fN [aN CL rs g,a8 (a,b,r)]=[some (aN CL rs g),some (.tup [.int a,.int b,.int r]),none,none,none]:=rfl
 rw [e0]
 unfold dG
 have e3:((3:Int) == 3)=true:=rfl
 simp only [aR,Gc,ja,e3]
 refine qY (fun rem ρ=>(∀ d∈rem,∃ i:Nat,i≤rs.length∧d= .int i)∧∃ o,ρ=[some (aN CL rs g),some (.tup [.int a,.int b,.int r]),some (.int rs.length),o,none]) ⟨fun d hd=> ?_,none,rfl⟩ (fun d ds ρ hZ158=> ?_) (fun ρ' hZ159=> ?_)
 ·rcases List.mem_cons.mp hd with rfl | hd
  ·exact ⟨a,ha,rfl⟩
  ·rw [List.mem_singleton.mp hd]
   exact ⟨b,hb,rfl⟩
 ·refine cps fun PP kP=> ?_
  obtain ⟨hd,o,e⟩:=hZ158
  subst e
  obtain ⟨i,hi,rfl⟩:=hd d (List.mem_cons_self ..)
  refine kP ?_; clear kP PP
  refine (Fd _ _ rfl ?_ (fun x hx=>hd x (cI hx)) (some (.int i)) rfl)
  have q3:decide (0≤(i:Int))=true:=decide_eq_true (by omega)
  have q4:decide ((i:Int)≤(rs.length:Int))=true:=decide_eq_true (by omega)
  simp only [aR,q3,q4]
 ·obtain ⟨_,o,e⟩:=hZ159
  subst e
  have q2:((a:Int) == (b:Int))=false:=beq_eq_false_iff_ne.mpr (by omega)
  have q3:decide (0≤r)=true:=decide_eq_true hr.1
  have q4:decide (r≤60)=true:=decide_eq_true hr.2
  simp only [aR,q2,q3,q4]
theorem Dz {rs:List Int}{g:Int}{t:Tr}(h:Good rs.length t)(hn:rs.length≤1000):rf K CL [aN CL rs g,a8 t]= .ok (.lst (au (az t))):=by
 have e1:=nE (K:=K) (CL:=CL) (g:=g) h
 obtain ⟨a,b,r⟩:=t
 have ha:=h.a; have hb:=h.b; have hne:=h.ne
 dsimp only at ha hb hne
 unfold rf
 refine (bz rfl).trans ?_
 have e0:aH wA [aN CL rs g,a8 (a,b,r)]=[some (aN CL rs g),some (.tup [.int a,.int b,.int r]),none,none]:=rfl
 rw [e0]
 unfold t7
 have e1':b7 K CL [aN CL rs g,.tup [.int a,.int b,.int r]]= .ok .non:=e1
 simp only [aR,e1']
 by_cases hab:a < b
 ·have q1:decide ((a:Int) < (b:Int))=true:=decide_eq_true (by omega)
  have q2:oG [.int (a:Int),.int (b:Int)]= .ok (.lst (au ((List.range (b - a)).map (a + ·)))):=by
   unfold oG
   dsimp only
   rw [if_pos,kl]
   unfold il
   simp only [Bool.and_eq_true,decide_eq_true_eq]
   refine ⟨⟨by omega,by omega⟩,ce (by omega)⟩
  simp only [aR,q1,q2]
  unfold az
  rw [if_pos (show (a,b,r).1 < (a,b,r).2.1 from hab)]
 ·have q1:decide ((a:Int) < (b:Int))=false:=decide_eq_false (by omega)
  have q2:oH [.int ((a:Int) - 1),.int ((b:Int) - 1),.int (-1)]= .ok (.lst (au ((List.range (a - b)).map (b + ·)).reverse)):=by
   unfold oH
   dsimp only
   rw [if_pos,rM (by omega)]
   unfold il
   simp only [Bool.and_eq_true,decide_eq_true_eq]
   refine ⟨⟨⟨by omega,by omega⟩,ce (by omega)⟩,trivial⟩
  simp only [aR,q1,q2]
  unfold az
  rw [if_neg (show ¬ (a,b,r).1 < (a,b,r).2.1 from hab)]
theorem u8 {rs:List Int}{g:Int}{ts:List Tr}(h:∀ t∈ts,Good rs.length t)(hn:rs.length≤1000)(h1:1≤ts.length)(h2:ts.length≤5):gW K CL [aN CL rs g,.lst (ts.map a8)]= .ok (.lst (ts.map fun t=> .lst (au (az t)))):=by
 unfold gW
 refine (bz rfl).trans ?_
 have e0:aH ph [aN CL rs g,.lst (ts.map a8)]=[some (aN CL rs g),some (.lst (ts.map a8))]:=rfl
 rw [e0]
 unfold pf
 have q1:decide (1≤(ts.length:Int))=true:=decide_eq_true (by omega)
 have q2:decide ((ts.length:Int)≤5)=true:=decide_eq_true (by omega)
 simp only [aR,q1,q2]
 rw [aT (xs:=ts) (c:=a8) (g:=fun t=> .lst (au (az t))) rfl (by omega) (fun t ht=>⟨_,rfl,?_⟩)]
 ·simp only [aR]
 ·have ec:c_ [none,some 0] [some (aN CL rs g),some (.lst (ts.map a8))]=[none,some (aN CL rs g)]:=rfl
  rw [ec]
  simp only [aR,Dz (K:=K) (CL:=CL) (g:=g) (h t ht) hn]
end
set_option maxHeartbeats 1000000
noncomputable def lR (b:Int)(l:List Int):Int:=l.foldl max b
theorem j8:∀ (l:List Int) (b:Int),(b≤lR b l∧∀ e∈l,e≤lR b l)∧(lR b l=b∨lR b l∈l)
 | [],b=>⟨⟨Int.le_refl _,fun _ h=>by cases h⟩,.inl rfl⟩
 | a :: l,b=>by
  obtain ⟨⟨h1,h2⟩,h3⟩:=j8 l (max b a)
  have e:lR b (a :: l)=lR (max b a) l:=rfl
  rw [e]
  refine ⟨⟨by omega,fun x hx=> ?_⟩,?_⟩
  ·rcases List.mem_cons.mp hx with rfl | hx
   ·omega
   ·exact h2 x hx
  ·rcases h3 with h | h
   ·rcases (show max b a=b∨max b a=a by omega) with z | z
    ·exact .inl (h.trans z)
    ·exact .inr (by rw [h,z]; exact List.mem_cons_self ..)
   ·exact .inr (cI h)
theorem CG {b v:Int}{l:List Int}(h1:b≤v)(h2:∀ e∈l,e≤v)(h3:v=b∨v∈l):lR b l=v:=by
 obtain ⟨⟨a1,a2⟩,a3⟩:=j8 l b
 have l1:lR b l≤v:=by
  rcases a3 with z | z
  ·omega
  ·exact h2 _ z
 have l2:v≤lR b l:=by
  rcases h3 with z | z
  ·omega
  ·exact a2 _ z
 omega
noncomputable abbrev Pl:=List (List Int)
noncomputable def aC (p:Pl)(k:Nat):List Int:=p.getD k []
noncomputable def bn (w:List Nat)(row:List Int)(s:Nat):List Int:=((w.zip row).filter fun q=>q.1 == s).map (·.2)
noncomputable abbrev Q:=Tr×Nat
noncomputable def jA (ts:List Tr)(p:Pl)(s:Nat):List (Int×Nat):=ts.zipIdx.flatMap fun q=>(bn (az q.1) (aC p q.2) s).map fun m=>(m,q.2)
noncomputable def apart (rs:List Int)(g:Int)(s:Nat):Int:=rs.getD s 0+g
noncomputable def free (rs:List Int)(g:Int)(ts:List Tr)(p:Pl)(s:Nat):Int:=lR 0 ((jA ts p s).map fun e=>e.1+apart rs g s)
noncomputable def bJ (p:Pl)(q:Q):Nat:=(az q.1).getD (aC p q.2).length 0
noncomputable def there (rs:List Int)(p:Pl)(q:Q):Int:=match (aC p q.2).getLast? with
 | none=>q.1.2.2
 | some m=>m+rs.getD ((az q.1).getD ((aC p q.2).length - 1) 0) 0
noncomputable def ku (rs:List Int)(g:Int)(ts:List Tr)(p:Pl)(q:Q):Int:=max (there rs p q) (free rs g ts p (bJ p q))
noncomputable def lj (p:Pl)(q:Q):Bool:=decide ((aC p q.2).length < (az q.1).length)
noncomputable def cy (ts:List Tr)(p:Pl):List Q:=ts.zipIdx.filter (lj p)
noncomputable def f2 (rs:List Int)(g:Int)(ts:List Tr)(p:Pl)(q:Q):List Int:=[ku rs g ts p q,q.2]
noncomputable def b9 (f:Q→List Int)(q:Q)(qs:List Q):Q:=qs.foldl (fun b u=>if HT.a_ (f u) (f b)=true then u else b) q
theorem n9 (f:Q→List Int):∀ (qs:List Q) (q:Q),fB (f q) (qs.map f)=f (b9 f q qs)
 | [],_=>rfl
 | u :: qs,q=>by
  have e1:fB (f q) ((u :: qs).map f)=fB (if HT.a_ (f u) (f q)=true then f u else f q) (qs.map f):=rfl
  have e2:b9 f q (u :: qs)=b9 f (if HT.a_ (f u) (f q)=true then u else q) qs:=rfl
  rw [e1,e2,← n9 f qs]
  split <;> rfl
theorem ke (f:Q→List Int):∀ (qs:List Q) (q:Q),b9 f q qs∈q :: qs
 | [],q=>List.mem_cons_self ..
 | u :: qs,q=>by
  have e2:b9 f q (u :: qs)=b9 f (if HT.a_ (f u) (f q)=true then u else q) qs:=rfl
  rw [e2]
  have:=ke f qs (if HT.a_ (f u) (f q)=true then u else q)
  rcases List.mem_cons.mp this with h | h
  ·rw [h]
   split
   ·exact cI (List.mem_cons_self ..)
   ·exact List.mem_cons_self ..
  ·exact cI (cI h)
noncomputable def step (rs:List Int)(g:Int)(ts:List Tr)(p:Pl)(q:Q):Pl:=p.set q.2 (aC p q.2 ++ [ku rs g ts p q])
noncomputable def run (rs:List Int)(g:Int)(ts:List Tr):Nat→Pl→Pl
 | 0,p=>p
 | n+1,p=>match cy ts p with
  | []=>p
  | q :: qs=>run rs g ts n (step rs g ts p (b9 (f2 rs g ts p) q qs))
theorem km {rs:List Int}{g:Int}{ts:List Tr}{p:Pl}(h:cy ts p=[]):∀ n,run rs g ts n p=p
 | 0=>rfl
 | n+1=>by unfold run; rw [h]
theorem ko {rs:List Int}{g:Int}{ts:List Tr}{p:Pl}{q:Q}{qs:List Q}{n:Nat}(h:cy ts p=q :: qs):run rs g ts (n+1) p=run rs g ts n (step rs g ts p (b9 (f2 rs g ts p) q qs)):=by
 conv=>lhs; unfold run
 rw [h]
structure Inv1 (ts:List Tr)(p:Pl):Prop where
 len:p.length=ts.length
 rows:∀ q∈ts.zipIdx,(aC p q.2).length≤(az q.1).length
 nn:∀ r∈p,∀ m∈r,(0:Int)≤m
theorem mem_zip {α:Type}{l:List α}{q:α×Nat}:q∈l.zipIdx↔l[q.2]?=some q.1:=by
 rw [List.mem_zipIdx_iff_getElem?]
theorem hJ {p:Pl}{k:Nat}(h:k < p.length):p[k]?=some (aC p k):=by
 unfold aC; rw [List.getD_eq_getElem?_getD,ij h]; rfl
theorem uW {p:Pl}{k:Nat}{m:Int}(h:m∈aC p k):∃ r∈p,m∈r:=by
 unfold aC at h
 rw [List.getD_eq_getElem?_getD] at h
 cases q:p[k]? with
 | none=>rw [q] at h; cases h
 | some r=>rw [q] at h; exact ⟨r,List.mem_of_getElem? q,h⟩
theorem Ay {p:Pl}{k j:Nat}{r:List Int}(h:k < p.length):aC (p.set k r) j=if j=k then r else aC p j:=by
 unfold aC
 rw [List.getD_eq_getElem?_getD,List.getD_eq_getElem?_getD,List.getElem?_set]
 by_cases e:k=j
 ·subst e; rw [if_pos rfl,if_pos rfl,if_pos h]; rfl
 ·rw [if_neg e,if_neg (fun z=>e z.symm)]
theorem zy {rs:List Int}{g:Int}{ts:List Tr}{p:Pl}{s:Nat}:0≤free rs g ts p s:=(j8 _ _).1.1
theorem getD_mem {α:Type}{l:List α}{i:Nat}{d:α}(h:i < l.length):l.getD i d∈l:=by
 rw [List.getD_eq_getElem?_getD,ij h]; exact List.getElem_mem h
theorem mK {rs:List Int}{g:Int}{ts:List Tr}{p:Pl}{q:Q}(I:Inv1 ts p)(hq:q∈cy ts p):Inv1 ts (step rs g ts p q):=by
 obtain ⟨h1,h2⟩:=List.mem_filter.mp hq
 have hz:=mem_zip.mp h1
 have hk:q.2 < ts.length:=(fG hz).1
 have hl:(aC p q.2).length < (az q.1).length:=of_decide_eq_true h2
 have hkp:q.2 < p.length:=by rw [I.len]; exact hk
 refine ⟨by unfold step; rw [List.length_set]; exact I.len,fun u hu=> ?_,fun r hr m hm=> ?_⟩
 ·unfold step
  rw [Ay hkp]
  split
  ·rename_i e
   have hu':=mem_zip.mp hu
   rw [e,hz] at hu'
   rw [List.length_append,← Option.some.inj hu']
   exact hl
  ·exact I.rows u hu
 ·unfold step at hr
  rcases List.mem_or_eq_of_mem_set hr with h | h
  ·exact I.nn r h m hm
  ·rw [h] at hm
   rcases List.mem_append.mp hm with h | h
   ·obtain ⟨r',h3,h4⟩:=uW h
    exact I.nn r' h3 m h4
   ·rw [List.mem_singleton.mp h]
    have:=zy (rs:=rs) (g:=g) (ts:=ts) (p:=p) (s:=bJ p q)
    unfold ku
    omega
theorem qf {ts:List Tr}{f:Q→Bool}:(ts.zipIdx.filter f).Pairwise fun a b=>a.2≠b.2:=by
 refine List.Pairwise.filter _ ?_
 have:(ts.zipIdx.map Prod.snd).Nodup:=by rw [List.zipIdx_map_snd]; exact List.nodup_range'
 exact List.pairwise_map.mp this
theorem k7:∀ {w:List Nat} {row:List Int} {s:Nat},w.Nodup→(bn w row s).length≤1
 | [],row,s,_=>by unfold bn; simp
 | a :: w,[],s,_=>by unfold bn; simp
 | a :: w,b :: row,s,h=>by
  rw [List.nodup_cons] at h
  have ih:=k7 (row:=row) (s:=s) h.2
  unfold bn at ih ⊢
  rw [List.zip_cons_cons]
  by_cases e:a=s
  ·subst e
   rw [List.filter_cons_of_pos (p:=fun q:Nat×Int=>q.1 == a) (a:=(a,b)) (beq_self_eq_true a)]
   have:(w.zip row).filter (fun q=>q.1 == a)=[]:=by
    rw [List.filter_eq_nil_iff]
    intro q hq hqa
    have e2:q.1=a:=by simpa using hqa
    exact h.1 (e2 ▸ (List.of_mem_zip hq).1)
   rw [this]; simp
  ·rw [List.filter_cons_of_neg (by simpa using e)]
   exact ih
theorem mG {α β:Type}{f:α→List β}:∀ (l:List α),(∀ x∈l,(f x).length≤1)→(l.flatMap f).length≤l.length
 | [],_=>by simp
 | x :: l,h=>by
  rw [List.flatMap_cons,List.length_append,List.length_cons]
  have:=h x (List.mem_cons_self ..)
  have:=mG l fun y hy=>h y (cI hy)
  omega
theorem uh {ts:List Tr}{p:Pl}{s:Nat}:(jA ts p s).length≤ts.length:=by
 have:=mG (f:=fun q:Q=>(bn (az q.1) (aC p q.2) s).map fun m=>(m,q.2)) ts.zipIdx fun q _=>by
  rw [List.length_map]; exact k7 ie
 rw [List.length_zipIdx] at this
 exact this
theorem FI {ts:List Tr}{p:Pl}{q:Q}(hl:(aC p q.2).length < (az q.1).length):(az q.1)[(aC p q.2).length]?=some (bJ p q):=by
 unfold bJ; rw [List.getD_eq_getElem?_getD,ij hl]; rfl
theorem yy:∀ {l:List Nat},(∀ x∈l,x≤5)→l.sum≤5 * l.length
 | [],_=>by simp
 | x :: l,h=>by
  have:=h x (List.mem_cons_self ..)
  have:=yy fun y hy=>h y (List.mem_cons_of_mem x hy)
  rw [List.sum_cons,List.length_cons]; omega
theorem uY:∀ {p:Pl} {k:Nat} {x:Int},k < p.length→((p.set k (aC p k ++ [x])).map List.length).sum=(p.map List.length).sum+1
 | [],k,x,h=>by simp at h
 | r :: p,0,x,h=>by
  show ((r ++ [x]).length :: p.map List.length).sum=(r.length :: p.map List.length).sum+1
  rw [List.sum_cons,List.sum_cons,List.length_append]; simp; omega
 | r :: p,k+1,x,h=>by
  have ih:=uY (p:=p) (k:=k) (x:=x) (by simpa using h)
  show (r.length :: (p.set k (aC p k ++ [x])).map List.length).sum=(r.length :: p.map List.length).sum+1
  rw [List.sum_cons,List.sum_cons,ih]; omega
theorem Dp {n:Nat}{ts:List Tr}{p:Pl}(I:Inv1 ts p)(hg:∀ t∈ts,Good n t)(hn:n≤5)(ht:ts.length≤5):(p.map List.length).sum≤25:=by
 have h1:(p.map List.length).sum≤5 * (p.map List.length).length:=yy fun x hx=>by
  refine cps fun PP kP=> ?_
  obtain ⟨r,hr,rfl⟩:=List.mem_map.mp hx
  obtain ⟨k,hk,e⟩:=List.getElem_of_mem hr
  refine kP ?_; clear kP PP
  have hk':k < ts.length:=by rw [← I.len]; exact hk
  have h2:=I.rows (ts[k],k) (mem_zip.mpr (ij hk'))
  have h3:aC p k=r:=by
   have:=hJ hk
   rw [ij hk,e] at this
   exact (Option.some.inj this).symm
  dsimp only at h2
  rw [h3] at h2
  have:=fm (hg _ (List.getElem_mem hk'))
  omega
 rw [List.length_map,I.len] at h1
 omega
set_option maxHeartbeats 1000000
section
variable{K:W.Frag}{CL:Addr}
noncomputable def aV (r:List Int):D:= .lst (r.map D.int)
noncomputable def fZ (t:List Int):D:= .tup (t.map D.int)
noncomputable def aG (t:Tr):D:= .lst (au (az t))
theorem uw {a b:Nat}:((a:Int) == (b:Int))=(a == b):=by
 by_cases h:a=b
 ·subst h; simp
 ·rw [beq_eq_false_iff_ne.mpr h,beq_eq_false_iff_ne.mpr (by omega)]
theorem pG {ts:List Tr}{p:Pl}{s:Nat}(I:Inv1 ts p)(hb:∀ r∈p,r.length≤1000)(ht:ts.length≤5) :
  ∃ l:List (List Int),dc K CL [.lst (ts.map aG),.lst (p.map aV),.int s]= .ok (.lst (l.map fZ))∧l.length≤5∧(∀ t,t∈l↔t∈(jA ts p s).map fun e=>[e.1,(e.2:Int)]):=by
 refine cw (oU ((jA ts p s).map fun e=>[e.1,(e.2:Int)]) (by rw [List.length_map]; exact Nat.le_trans uh ht) (fun t h=>by obtain ⟨e,_,rfl⟩:=List.mem_map.mp h; exact fun z=>by cases z)) fun l e hl5 hl=> ?_
 refine (ik l ?_ (by rw [hl5,List.length_map]; exact Nat.le_trans uh ht) hl)
 unfold dc
 refine (bz rfl).trans ?_
 have e0:aH gB [.lst (ts.map aG),.lst (p.map aV),.int s]=[some (.lst (ts.map aG)),some (.lst (p.map aV)),some (.int s),none,none,none,none,none]:=rfl
 rw [e0]
 unfold dZ
 simp only [aR,fF]
 have one:∀ q:Q,((bn (az q.1) (aC p q.2) s).map fun m=>[m,(q.2:Int)]).length≤1:=fun q=>by rw [List.length_map]; exact k7 ie
 refine ki (fun pre ρ=>∃ o4 o5 o6 o7,ρ=[some (.lst (ts.map aG)),some (.lst (p.map aV)),some (.int s),some (.lst ((pre.flatMap fun q:Q=>(bn (az q.1) (aC p q.2) s).map fun m=>[m,(q.2:Int)]).map fZ)),o4,o5,o6,o7]) (Cr none none none none rfl) (fun pre q post exs ρ hZ160=> ?_) (fun ρ' hZ161=> ?_)
 ·refine AV (hZ160) fun o4 o5 o6 o7 e=> ?_
  subst e
  refine ⟨_,rfl,?_⟩
  have hq:q∈ts.zipIdx:=by rw [exs]; simp
  have hpl:pre.length≤5:=by
   have:=congrArg List.length exs
   rw [List.length_zipIdx,List.length_append] at this
   omega
  have hk:q.2 < p.length:=by rw [I.len]; exact (fG (mem_zip.mp hq)).1
  have hix:=b8 (g:=aV) (hJ hk)
  have hzp:sd [aG q.1,aV (aC p q.2)]= .ok (((az q.1).zip (aC p q.2)).map fun u=> .tup [.int (u.1:Int),.int u.2]):=sG
  simp only [aR,hix,hzp]
  have hfl:=mG (f:=fun q:Q=>(bn (az q.1) (aC p q.2) s).map fun m=>[m,(q.2:Int)]) pre fun q _=>one q
  have hrl:(aC p q.2).length≤1000:=hb _ (List.mem_of_getElem? (hJ hk))
  refine lY (fun pr ρ=>∃ o6 o7,ρ=[some (.lst (ts.map aG)),some (.lst (p.map aV)),some (.int s),some (.lst (((pre.flatMap fun q:Q=>(bn (az q.1) (aC p q.2) s).map fun m=>[m,(q.2:Int)]) ++ (pr.filter fun u=>u.1 == s).map fun u=>[u.2,(q.2:Int)]).map fZ)),some (.int q.2),some (aG q.1),o6,o7]) ⟨_,_,by rw [List.filter_nil,List.map_nil,List.append_nil]⟩ (fun pr u po exs2 ρ hZ162=> ?_) (fun ρ' hZ163=> ?_)
  ·obtain ⟨o6,o7,e⟩:=hZ162
   subst e
   refine ⟨_,rfl,?_⟩
   cases hu:u.1 == s with
   | true=>
    simp only [aR,uw,hu]
    have hpr:(pr.filter fun u=>u.1 == s).length≤pr.length:=List.length_filter_le ..
    have hpz:pr.length≤(aC p q.2).length:=by
     have:=congrArg List.length exs2
     rw [List.length_zip,List.length_append] at this
     omega
    refine (xl _ (pK (d:=fZ [u.2,(q.2:Int)]) rfl (by simp only [aR]; rfl) (by rw [List.length_map,List.length_append,List.length_map]; omega)) (some (.int u.1)) (some (.int u.2)) ?_)
    rw [List.filter_append,List.filter_cons_of_pos (by exact hu),List.filter_nil]
    simp only [List.map_append,List.map_cons,List.map_nil,List.append_assoc]
    rfl
   | false=>
    simp only [aR,uw,hu]
    refine (xl _ rfl (some (.int u.1)) (some (.int u.2)) ?_)
    rw [List.filter_append,List.filter_cons_of_neg (by rw [hu]; exact Bool.false_ne_true),List.filter_nil,List.append_nil]
  ·obtain ⟨o6,o7,e⟩:=hZ163
   refine (Cr (some (.int q.2)) (some (aG q.1)) o6 o7 ?_)
   rw [e,List.flatMap_append,List.flatMap_singleton]
   unfold bn
   rw [List.map_map]
   rfl
 ·refine AV (hZ161) fun o4 o5 o6 o7 e=> ?_
  subst e
  have e1:(ts.zipIdx.flatMap fun q:Q=>(bn (az q.1) (aC p q.2) s).map fun m=>[m,(q.2:Int)])=(jA ts p s).map fun e=>[e.1,(e.2:Int)]:=by
   unfold jA
   rw [List.map_flatMap]
   congr 1
   funext q
   rw [List.map_map]
   rfl
  rw [e1]
  have e2:fk [.lst (((jA ts p s).map fun e=>[e.1,(e.2:Int)]).map fZ)]= .ok (.lst (l.map fZ)):=e
  have e3:d_ 1 (.lst (l.map fZ))=true:=kX
  simp only [aR,e2,e3]
theorem lP {l:List D}:yC (.lst l)= .ok (!l.isEmpty):=id rfl
structure Ctx (rs:List Int)(g:Int)(ts:List Tr):Prop where
 ln:GoodLine rs g
 tr:∀ t∈ts,Good rs.length t
 few:ts.length≤5
 one:1≤ts.length
theorem Ctx.good {rs:List Int}{g:Int}{ts:List Tr}{q:Q}(C:Ctx rs g ts)(hq:q∈ts.zipIdx):Good rs.length q.1:=C.tr _ (List.mem_of_getElem? (mem_zip.mp hq))
theorem Ctx.rows {rs:List Int}{g:Int}{ts:List Tr}{p:Pl}(C:Ctx rs g ts)(I:Inv1 ts p):∀ r∈p,r.length≤1000:=fun r hr=>by
 obtain ⟨k,hk,e⟩:=List.getElem_of_mem hr
 have hk':k < ts.length:=by rw [← I.len]; exact hk
 have hz:(ts[k],k)∈ts.zipIdx:=mem_zip.mpr (ij hk')
 have h2:=I.rows _ hz
 have h3:aC p k=r:=by
  have:=hJ hk
  rw [ij hk,e] at this
  exact (Option.some.inj this).symm
 dsimp only at h2
 rw [h3] at h2
 have h4:(az ts[k]).length≤rs.length:=fm (C.good hz)
 have:=C.ln.few
 omega
theorem qo {rs:List Int}{g:Int}(h:GoodLine rs g){s:Nat}(hs:s < rs.length):1≤rs.getD s 0∧rs.getD s 0≤20:=h.run _ (getD_mem hs)
theorem rX {rs:List Int}{g:Int}{ts:List Tr}{p:Pl}{q:Q}(C:Ctx rs g ts)(I:Inv1 ts p)(hq:q∈ts.zipIdx):0≤there rs p q:=by
 have G:=C.good hq
 have hr:=I.rows q hq
 unfold there
 rcases List.eq_nil_or_concat (aC p q.2) with e | ⟨r,m,e⟩
 ·rw [e]; exact G.r.1
 ·rw [List.concat_eq_append] at e
  rw [e,List.getLast?_concat]
  dsimp only
  have hm:0≤m:=by
   obtain ⟨r',h1,h2⟩:=uW (p:=p) (k:=q.2) (m:=m) (by rw [e]; simp)
   exact I.nn r' h1 m h2
  rw [e,List.length_append] at hr
  have hl:(r ++ [m]).length - 1 < (az q.1).length:=by rw [List.length_append]; simp at hr ⊢; omega
  have:=qo C.ln (cr G _ (getD_mem (d:=0) hl))
  omega
theorem uy {w:List Nat}{i:Nat}{v:Nat}(h:w[i]?=some v):aM (.lst (au w)) (.int (i:Int))= .ok (.int (v:Int)):=b8 h
theorem dH {α:Type}{l:List α}{i:Nat}{d:α}(h:i < l.length):l[i]?=some (l.getD i d):=by
 rw [List.getD_eq_getElem?_getD,ij h]; rfl
theorem m3 {rs:List Int}{g:Int}{ts:List Tr}{p:Pl}{q:Q}(C:Ctx rs g ts)(I:Inv1 ts p)(hq:q∈ts.zipIdx) :
  cj K CL [aN CL rs g,.lst (ts.map a8),.lst (ts.map aG),.lst (p.map aV),.int (q.2:Int)]= .ok (.int (there rs p q)):=by
 have G:=C.good hq
 have hr:=I.rows q hq
 have hz:=mem_zip.mp hq
 have hk:q.2 < p.length:=by rw [I.len]; exact (fG hz).1
 unfold cj
 refine (bz rfl).trans ?_
 have e0:aH eF [aN CL rs g,.lst (ts.map a8),.lst (ts.map aG),.lst (p.map aV),.int (q.2:Int)]=[some (aN CL rs g),some (.lst (ts.map a8)),some (.lst (ts.map aG)),some (.lst (p.map aV)),some (.int (q.2:Int)),none]:=rfl
 rw [e0]
 unfold cU
 have l:=b8 (g:=aV) (hJ hk)
 have hit:=b8 (g:=a8) hz
 have hip:=b8 (g:=aG) hz
 unfold there
 rcases List.eq_nil_or_concat (aC p q.2) with e | ⟨r,m,e⟩
 ·rw [e] at l ⊢
  have e1:yC (aV [])= .ok false:=rfl
  have e2:aM (a8 q.1) (.int 2)= .ok (.int q.1.2.2):=qU
  simp only [aR,l,e1,hit,e2]
  rfl
 ·rw [List.concat_eq_append] at e
  rw [e] at l ⊢
  rw [List.getLast?_concat]
  dsimp only
  have e1:yC (aV (r ++ [m]))= .ok true:=by
   unfold aV; rw [lP,List.map_append]; cases r <;> rfl
  have e2:aM (aV (r ++ [m])) (.int (-1))= .ok (.int m):=by
   unfold aV; rw [List.map_append]; exact mD (wF _ _)
  have e3:bf [aV (r ++ [m])]= .ok (.int ((r.length:Int)+1)):=by
   unfold aV; rw [pM,List.length_map,List.length_append]; rfl
  have e4:(r.length:Int)+1 - 1=(r.length:Int):=by omega
  rw [e,List.length_append] at hr
  have hl:r.length < (az q.1).length:=by simp at hr; omega
  have e5:aM (aG q.1) (.int (r.length:Int))= .ok (.int (((az q.1).getD r.length 0:Nat):Int)):=uy (dH hl)
  have e6:=b8 (g:=D.int) (dH (d:=0) (cr G _ (getD_mem (d:=0) hl)))
  have e7:(r ++ [m]).length - 1=r.length:=by rw [List.length_append]; simp
  simp only [aR,l,e1,e2,e3,e4,hip,e5,Gc,ja,e6,e7]
theorem tL {rs:List Int}{g:Int}{ts:List Tr}{p:Pl}{q:Q}(C:Ctx rs g ts)(I:Inv1 ts p)(hq:q∈cy ts p) :
  bZ K CL [aN CL rs g,.lst (ts.map a8),.lst (ts.map aG),.lst (p.map aV),.int (q.2:Int)]= .ok (.int (ku rs g ts p q)):=by
 obtain ⟨hq,hgo⟩:=List.mem_filter.mp hq
 have hl:(aC p q.2).length < (az q.1).length:=of_decide_eq_true hgo
 have G:=C.good hq
 have hz:=mem_zip.mp hq
 have hk:q.2 < p.length:=by rw [I.len]; exact (fG hz).1
 have hst:=FI (ts:=ts) hl
 have hsl:bJ p q < rs.length:=cr G _ (List.mem_of_getElem? hst)
 refine cw (pG (K:=K) (CL:=CL) (s:=bJ p q) I (C.rows I) C.few) fun l el l5 ml=> ?_
 unfold bZ
 refine (bz rfl).trans ?_
 have e0:aH cF [aN CL rs g,.lst (ts.map a8),.lst (ts.map aG),.lst (p.map aV),.int (q.2:Int)]=[some (aN CL rs g),some (.lst (ts.map a8)),some (.lst (ts.map aG)),some (.lst (p.map aV)),some (.int (q.2:Int)),none,none,none]:=rfl
 rw [e0]
 unfold cE
 have hix:=b8 (g:=aV) (hJ hk)
 have hip:=b8 (g:=aG) hz
 have e3:bf [aV (aC p q.2)]= .ok (.int ((aC p q.2).length:Int)):=cH
 have e5:aM (aG q.1) (.int ((aC p q.2).length:Int))= .ok (.int (bJ p q:Int)):=uy hst
 have e6:=b8 (g:=D.int) (dH (d:=0) hsl)
 have e7:rs.getD (bJ p q) 0+g=apart rs g (bJ p q):=rfl
 have e8:=m3 (K:=K) (CL:=CL) C I hq
 have hll:l.length≤100000:=by omega
 simp only [aR,hix,hip,e3,e5,Gc,HF,ja,mr,e6,e7]
 rw [aT (xs:=l) (c:=fZ) (g:=fun t=> .int (t.headD 0+apart rs g (bJ p q))) (by simp only [aR,el]) hll (fun t ht=>⟨_,rfl,?_⟩)]
 ·have e9:(l.map fun t=>D.int (t.headD 0+apart rs g (bJ p q)))=(l.map fun t=>t.headD 0+apart rs g (bJ p q)).map D.int:=by rw [List.map_map]; rfl
  have e10:aO (.lst [.int (there rs p q)]) (.lst ((l.map fun t=>t.headD 0+apart rs g (bJ p q)).map D.int))= .ok (.lst ((there rs p q :: l.map fun t=>t.headD 0+apart rs g (bJ p q)).map D.int)):=
   qQ (ce (by rw [List.length_map,List.length_map]; simp; omega))
  rw [e9]
  simp only [aR,e8,e10]
  rw [rg,bA,qT]
  congr 2
  have hne:(there rs p q :: l.map fun t=>t.headD 0+apart rs g (bJ p q))≠[]:=fun z=>by cases z
  obtain ⟨a1,a2⟩:=i7 hne
  have tn:=rX C I hq
  unfold ku free
  obtain ⟨⟨b1,b2⟩,b3⟩:=j8 ((jA ts p (bJ p q)).map fun e=>e.1+apart rs g (bJ p q)) 0
  have l1:je (there rs p q :: l.map fun t=>t.headD 0+apart rs g (bJ p q))≤max (there rs p q) (lR 0 ((jA ts p (bJ p q)).map fun e=>e.1+apart rs g (bJ p q))):=by
   rcases List.mem_cons.mp a1 with h | h
   ·omega
   ·refine cps fun PP kP=> ?_
    obtain ⟨t,ht,e⟩:=List.mem_map.mp h
    obtain ⟨u,hu,rfl⟩:=List.mem_map.mp ((ml t).mp ht)
    refine kP ?_; clear kP PP
    have:=b2 _ (List.mem_map.mpr ⟨u,hu,rfl⟩)
    have e':u.1+apart rs g (bJ p q)=je (there rs p q :: l.map fun t=>t.headD 0+apart rs g (bJ p q)):=e
    omega
  have l2:lR 0 ((jA ts p (bJ p q)).map fun e=>e.1+apart rs g (bJ p q))≤je (there rs p q :: l.map fun t=>t.headD 0+apart rs g (bJ p q)):=by
   have c1:=a2 (there rs p q) (List.mem_cons_self ..)
   rcases b3 with h | h
   ·omega
   ·obtain ⟨u,hu,e⟩:=List.mem_map.mp h
    have:=a2 (u.1+apart rs g (bJ p q)) (cI (List.mem_map.mpr ⟨[u.1,(u.2:Int)],(ml _).mpr (List.mem_map.mpr ⟨u,hu,rfl⟩),rfl⟩))
    omega
  have c1:=a2 (there rs p q) (List.mem_cons_self ..)
  omega
 ·obtain ⟨u,hu,rfl⟩:=List.mem_map.mp ((ml t).mp ht)
  have ec:aM (fZ [u.1,(u.2:Int)]) (.int 0)= .ok (.int u.1):=ul
  have ecap:∀ (a b c d e f:Option D),c_ [none,some 6] [a,b,c,d,e,f,some (.int (apart rs g (bJ p q))),none]=[none,some (.int (apart rs g (bJ p q)))]:=fun _ _ _ _ _ _=>rfl
  rw [ecap]
  simp only [aR,ec]
  rfl
end
set_option maxHeartbeats 1000000
section
variable{K:W.Frag}{CL:Addr}
theorem iN {rs:List Int}{g:Int}{ts:List Tr}{p:Pl}(C:Ctx rs g ts)(I:Inv1 ts p) :
  bN K CL [aN CL rs g,.lst (ts.map a8),.lst (ts.map aG),.lst (p.map aV)]= .ok (.lst ((cy ts p).map fun q=>fZ (f2 rs g ts p q))):=by
 unfold bN
 refine (bz rfl).trans ?_
 have e0:aH cb [aN CL rs g,.lst (ts.map a8),.lst (ts.map aG),.lst (p.map aV)]=[some (aN CL rs g),some (.lst (ts.map a8)),some (.lst (ts.map aG)),some (.lst (p.map aV)),none]:=rfl
 rw [e0]
 unfold cV
 have hf:=C.few
 simp only [aR]
 rw [dI (xs:=ts.zipIdx) (c:=fun q=> .tup [.int (q.2:Int),aG q.1]) (p:=lj p) (g:=fun q=> .int (q.2:Int)) (by simp only [aR,fF]) (by rw [List.length_zipIdx]; omega) (fun q hq=>(ik _ rfl ?_ (fun _=>rfl)))]
 ·simp only [aR]
  rw [aT (xs:=cy ts p) (c:=fun q=> .int (q.2:Int)) (g:=fun q=>fZ (f2 rs g ts p q)) rfl (by have:=List.length_filter_le (lj p) ts.zipIdx; rw [List.length_zipIdx] at this; unfold cy; omega) (fun q hq=>⟨_,rfl,?_⟩)]
  ·simp only [aR]
  ·have ec:∀ o:Option D,c_ [none,some 0,some 1,some 2,some 3] [some (aN CL rs g),some (.lst (ts.map a8)),some (.lst (ts.map aG)),some (.lst (p.map aV)),o]=[none,some (aN CL rs g),some (.lst (ts.map a8)),some (.lst (ts.map aG)),some (.lst (p.map aV))]:=fun _=>rfl
   rw [ec]
   simp only [aR,tL (K:=K) (CL:=CL) C I hq]
   rfl
 ·have hk:q.2 < p.length:=by rw [I.len]; exact (fG (mem_zip.mp hq)).1
  have hix:=b8 (g:=aV) (hJ hk)
  have e3:bf [aV (aC p q.2)]= .ok (.int ((aC p q.2).length:Int)):=cH
  have e4:bf [aG q.1]= .ok (.int ((az q.1).length:Int)):=cH
  have e5:decide (((aC p q.2).length:Int) < ((az q.1).length:Int))=lj p q:=by
   unfold lj
   by_cases h:(aC p q.2).length < (az q.1).length
   ·rw [decide_eq_true h,decide_eq_true (by omega)]
   ·rw [decide_eq_false h,decide_eq_false (by omega)]
  have ec:c_ [none,none,some 3] [some (aN CL rs g),some (.lst (ts.map a8)),some (.lst (ts.map aG)),some (.lst (p.map aV)),none]=[none,none,some (.lst (p.map aV))]:=rfl
  rw [ec]
  simp only [aR,hix,e3,e4,e5]
theorem Ax {rs:List Int}{g:Int}{ts:List Tr}{p:Pl}{k:Nat}(C:Ctx rs g ts)(I:Inv1 ts p)(hk:k < p.length):(aC p k).length≤1000:=C.rows I _ (List.mem_of_getElem? (hJ hk))
noncomputable def p0 (ts:List Tr):Pl:=ts.map fun _=>[]
theorem Dm {ts:List Tr}{k:Nat}:aC (p0 ts) k=[]:=by
 unfold aC p0
 rw [List.getD_eq_getElem?_getD,List.getElem?_map]
 cases ts[k]? <;> rfl
theorem pX {ts:List Tr}:Inv1 ts (p0 ts):=⟨by unfold p0; rw [List.length_map],fun q _=>by rw [Dm]; exact Nat.zero_le _,fun r hr m hm=>by
 unfold p0 at hr
 obtain ⟨_,_,rfl⟩:=List.mem_map.mp hr
 cases hm⟩
theorem yz:∀ {ts:List Tr},((p0 ts).map List.length).sum=0
 | []=>rfl
 | _ :: ts=>by
  show (0 :: (p0 ts).map List.length).sum=0
  rw [List.sum_cons,yz]
theorem CT {ts:List Tr}{α:Type}{f:α→D}:(ts.map fun _=>D.lst [])=(p0 ts).map aV:=by
 unfold p0; rw [List.map_map]; rfl
theorem pR {rs:List Int}{g:Int}{ts:List Tr}(C:Ctx rs g ts):de K CL [aN CL rs g,.lst (ts.map a8)]= .ok (.lst ((run rs g ts 26 (p0 ts)).map aV)):=by
 have hf:=C.few; have ho:=C.one; have hr5:=C.ln.few
 unfold de
 refine (bz rfl).trans ?_
 have e0:aH d8 [aN CL rs g,.lst (ts.map a8)]=[some (aN CL rs g),some (.lst (ts.map a8)),none,none,none,none]:=rfl
 rw [e0]
 unfold d6
 have e1:gW K CL [aN CL rs g,.lst (ts.map a8)]= .ok (.lst (ts.map aG)):=u8 C.tr (by omega) ho hf
 simp only [aR,e1]
 rw [aT (xs:=ts) (c:=aG) (g:=fun _=>D.lst []) rfl (by omega) (fun t ht=>⟨_,rfl,by simp only [aR]⟩),CT (α:=Nat) (f:=fun _=> .non)]
 have lf:∀ p:Pl,d_ 1 (.lst ((cy ts p).map fun q=>fZ (f2 rs g ts p q)))=true:=fun p=>by
  have:=kX (l:=(cy ts p).map fun q=>f2 rs g ts p q)
  rw [List.map_map] at this
  exact this
 simp only [aR,iN (K:=K) (CL:=CL) C pX,lf]
 refine lB (fun n ρ=>∃ (p:Pl) (o5:Option D),Inv1 ts p∧n+(p.map List.length).sum=26∧run rs g ts n p=run rs g ts 26 (p0 ts)∧ρ=[some (aN CL rs g),some (.lst (ts.map a8)),some (.lst (ts.map aG)),some (.lst (p.map aV)),some (.lst ((cy ts p).map fun q=>fZ (f2 rs g ts p q))),o5])
  (fun ρ=>∃ o4 o5,ρ=[some (aN CL rs g),some (.lst (ts.map a8)),some (.lst (ts.map aG)),some (.lst ((run rs g ts 26 (p0 ts)).map aV)),o4,o5]) 26 (by decide) ⟨p0 ts,none,pX,by rw [yz],rfl,rfl⟩ (fun n ρ ⟨p,o5,I,hn,hR,e⟩=> ?_) (fun ρ' ⟨o4,o5,e⟩=> ?_)
 ·subst e
  cases hc:cy ts p with
  | nil=>
   left
   refine ⟨rfl,some (.lst []),o5,?_⟩
   rw [← hR,km hc]
   rfl
  | cons q qs=>
   right
   have hs:=Dp I C.tr hr5 hf
   obtain ⟨m,rfl⟩:∃ m,n=m+1:=⟨n - 1,by omega⟩
   refine ⟨rfl,m,?_⟩
   have hm:b9 (f2 rs g ts p) q qs∈cy ts p:=by rw [hc]; exact ke _ _ _
   generalize hu:b9 (f2 rs g ts p) q qs=u at hm
   have I':=mK (rs:=rs) (g:=g) I hm
   have hz:=mem_zip.mp (List.mem_filter.mp hm).1
   have hk:u.2 < p.length:=by rw [I.len]; exact (fG hz).1
   have e2:j7 [.lst ((q :: qs).map fun q=>fZ (f2 rs g ts p q))]= .ok (fZ (f2 rs g ts p u)):=by
    have h1:=zN (t:=f2 rs g ts p q) (ts:=qs.map (f2 rs g ts p))
    rw [n9,hu] at h1
    have e:((q :: qs).map fun q=>fZ (f2 rs g ts p q))=(f2 rs g ts p q :: qs.map (f2 rs g ts p)).map fZ:=by rw [List.map_cons,List.map_cons,List.map_map]; rfl
    rw [e]
    exact h1
   have e3:aM (fZ (f2 rs g ts p u)) (.int 1)= .ok (.int (u.2:Int)):=wY
   have e4:aM (fZ (f2 rs g ts p u)) (.int 0)= .ok (.int (ku rs g ts p u)):=ul
   refine ⟨[some (aN CL rs g),some (.lst (ts.map a8)),some (.lst (ts.map aG)),some (.lst ((step rs g ts p u).map aV)),some (.lst ((cy ts (step rs g ts p u)).map fun q=>fZ (f2 rs g ts (step rs g ts p u) q))),some (fZ (f2 rs g ts p u))],rfl,?_,step rs g ts p u,_,I',?_,?_,rfl⟩
   ·simp only [aR,e2]
    rw [zm (m:=u.2) (l:=p.map aV) (row:=(aC p u.2).map D.int) (d:= .int (ku rs g ts p u)) rfl (by simp only [aR,e3]) (by simp only [aR,e4]) (by rw [List.getElem?_map,hJ hk]; rfl) (by rw [List.length_map]; have:=Ax C I hk; omega)]
    have e5:(p.map aV).set u.2 (.lst ((aC p u.2).map D.int ++ [.int (ku rs g ts p u)]))=(step rs g ts p u).map aV:=by
     unfold step; rw [List.map_set]; unfold aV; rw [List.map_append]; rfl
    simp only [aR,e5,iN (K:=K) (CL:=CL) C I',lf]
   ·unfold step; rw [uY hk]; omega
   ·rw [← hR,ko hc,hu]
 ·subst e
  rfl
end
set_option maxHeartbeats 1000000
noncomputable abbrev Vt:=Nat×Nat
section
variable(vs:List Vt)(W:Vt→List (Vt×Int))(ready:Vt→Int)
noncomputable def bD (turn:List Vt):List Vt:=vs.filter fun v=> !turn.contains v && ((W v).all fun u=>turn.contains u.1)
noncomputable def bi:Nat→List Vt→List Vt
 | 0,t=>t
 | n+1,t=>if bD vs W t=[] then t else bi n (t ++ bD vs W t)
structure Turn (t:List Vt):Prop where
 nd:t.Nodup
 sub:∀ v∈t,v∈vs
 top:∀ a v b,t=a ++ v :: b→∀ u∈W v,u.1∈a
noncomputable def Fo (e:Vt→Int)(v:Vt):Vt→Int:=fun x=>if x=v then lR (ready v) ((W v).map fun u=>e u.1+u.2) else e x
noncomputable def jJ (t:List Vt):Vt→Int:=t.foldl (Fo W ready) (fun _=>0)
end
theorem AG {α:Type}{P:List α→Prop}(h0:P [])(h1:∀ t x,P t→P (t ++ [x]))(l:List α):P l:=by
 have h:∀ r:List α,P r.reverse:=fun r=>by
  induction r with
  | nil=>exact h0
  | cons x r ih=>rw [List.reverse_cons]; exact h1 _ _ ih
 have:=h l.reverse
 rwa [List.reverse_reverse] at this
theorem b0 {α:Type}[DecidableEq α]:∀ {t vs:List α},t.Nodup→(∀ v∈t,v∈vs)→t.length≤vs.length
 | [],_,_,_=>Nat.zero_le _
 | a :: t,vs,nd,h=>by
  obtain ⟨n1,n2⟩:=List.nodup_cons.mp nd
  have ha:=h a (List.mem_cons_self ..)
  have ih:=b0 (vs:=vs.erase a) n2 fun v hv=>(List.mem_erase_of_ne (fun (e:v=a)=>n1 (e ▸ hv))).mpr (h v (cI hv))
  rw [List.length_erase_of_mem ha] at ih
  have:=List.length_pos_of_mem ha
  rw [List.length_cons]
  omega
section
variable{vs:List Vt}{W:Vt→List (Vt×Int)}{ready:Vt→Int}
theorem mem_freed {t:List Vt}{v:Vt}:v∈bD vs W t↔v∈vs∧v∉t∧∀ u∈W v,u.1∈t:=by
 unfold bD
 rw [List.mem_filter,Bool.and_eq_true,List.all_eq_true]
 simp
theorem rZ:Turn vs W [] where
 nd:=List.nodup_nil
 sub:=fun v h=>nomatch h
 top:=fun a v b e=>by cases a <;> cases e
theorem wj {α:Type}{t f a b:List α}{v:α}(e:t ++ f=a ++ v :: b):(∃ c,t=a ++ v :: c)∨∃ c,a=t ++ c∧f=c ++ v :: b:=by
 rcases List.append_eq_append_iff.mp e with ⟨c,h1,h2⟩ | ⟨c,h1,h2⟩
 ·exact .inr ⟨c,h1,h2⟩
 ·cases c with
  | nil=>exact .inr ⟨[],by simpa using h1.symm,by simpa using h2.symm⟩
  | cons x c=>
   simp at h2
   obtain ⟨rfl,h3⟩:=h2
   exact .inl ⟨c,h1⟩
theorem oY {t:List Vt}(hv:vs.Nodup)(h:Turn vs W t):Turn vs W (t ++ bD vs W t):=by
 refine ⟨List.nodup_append.mpr ⟨h.nd,hv.filter _,fun a ha b hb e=> ?_⟩,fun v m=> ?_,fun a v b e u hu=> ?_⟩
 ·subst e; exact (mem_freed.mp hb).2.1 ha
 ·rcases List.mem_append.mp m with z | z
  ·exact h.sub v z
  ·exact (mem_freed.mp z).1
 ·rcases wj e with ⟨c,z⟩ | ⟨c,z1,z2⟩
  ·exact h.top a v c z u hu
  ·rw [z1]
   exact List.mem_append_left _ ((mem_freed.mp (by rw [z2]; exact List.mem_append_right _ (List.mem_cons_self ..))).2.2 u hu)
theorem oz (hv:vs.Nodup):∀ (n:Nat) (t:List Vt),Turn vs W t→vs.length < n+t.length→Turn vs W (bi vs W n t)∧bD vs W (bi vs W n t)=[]
 | 0,t,h,hl=>by have:=b0 h.nd h.sub; omega
 | n+1,t,h,hl=>by
  unfold bi
  by_cases e:bD vs W t=[]
  ·rw [if_pos e]; exact ⟨h,e⟩
  ·rw [if_neg e]
   refine oz hv n _ (oY hv h) ?_
   have:=List.length_pos_iff.mpr e
   rw [List.length_append]
   omega
theorem Turn.pre {a b:List Vt}(h:Turn vs W (a ++ b)):Turn vs W a:=⟨(List.nodup_append.mp h.nd).1,fun v m=>h.sub v (List.mem_append_left _ m),fun x v y e u hu=>h.top x v (y ++ b) (by rw [e]; simp) u hu⟩
theorem j4 {t:List Vt}{v:Vt}:jJ W ready (t ++ [v])=Fo W ready (jJ W ready t) v:=by unfold jJ; rw [List.foldl_append]; rfl
theorem tO {t:List Vt}(he:bD vs W t=[]){v:Vt}(hv:v∈vs)(nt:v∉t):∃ u∈W v,u.1∉t:=by
 apply Classical.byContradiction
 intro z
 have:v∈bD vs W t:=mem_freed.mpr ⟨hv,nt,fun u hu=>by
  apply Classical.byContradiction
  intro y
  exact z ⟨u,hu,y⟩⟩
 rw [he] at this; cases this
end
set_option maxHeartbeats 1000000
noncomputable def ak (ts:List Tr):List Vt:=ts.zipIdx.flatMap fun q=>(az q.1).map fun s=>(q.2,s)
theorem mem_visits {ts:List Tr}{v:Vt}:v∈ak ts↔∃ t,ts[v.1]?=some t∧v.2∈az t:=by
 unfold ak
 rw [List.mem_flatMap]
 constructor
 ·intro hZ26
  refine cps fun PP kP=> ?_
  obtain ⟨q,hq,h⟩:=hZ26
  obtain ⟨s,hs,e⟩:=List.mem_map.mp h
  refine kP ?_; clear kP PP
  subst e
  exact ⟨q.1,mem_zip.mp hq,hs⟩
 ·intro hZ27
  obtain ⟨t,ht,h⟩:=hZ27
  exact ⟨(t,v.1),mem_zip.mpr ht,List.mem_map.mpr ⟨v.2,h,rfl⟩⟩
theorem bW {ts:List Tr}:(ak ts).Nodup:=by
 unfold ak
 have h1:ts.zipIdx.Pairwise fun a b=>a.2≠b.2:=by
  have:=qf (ts:=ts) (f:=fun _=>true)
  rwa [List.filter_eq_self.mpr (fun _ _=>rfl)] at this
 rw [List.nodup_iff_pairwise_ne,List.pairwise_flatMap]
 refine ⟨fun q _=> ?_,h1.imp fun {a b} hab x hx y hy e=> ?_⟩
 ·rw [← List.nodup_iff_pairwise_ne]
  exact List.Pairwise.map _ (fun a b (h:a≠b) e=>h (Prod.mk.inj e).2) (ie (t:=q.1))
 ·refine cps fun PP kP=> ?_
  obtain ⟨s,_,rfl⟩:=List.mem_map.mp hx
  obtain ⟨s',_,rfl⟩:=List.mem_map.mp hy
  refine kP ?_; clear kP PP
  exact hab (Prod.mk.inj e).1
noncomputable def wP (rs:List Int)(ts:List Tr)(v:Vt):List (Vt×Int):=match ts[v.1]? with
 | some t=>((az t).zip (az t).tail).filterMap fun u=>if u.2=v.2 then some ((v.1,u.1),rs.getD u.1 0) else none
 | none=>[]
noncomputable def wO (rs:List Int)(g:Int)(O:List (List Nat))(v:Vt):List (Vt×Int):=((O.getD v.2 []).zip (O.getD v.2 []).tail).filterMap fun u=>if u.2=v.1 then some ((u.1,v.2),rs.getD v.2 0+g) else none
noncomputable def jn (rs:List Int)(g:Int)(ts:List Tr)(O:List (List Nat))(v:Vt):List (Vt×Int):=wP rs ts v ++ wO rs g O v
noncomputable def kE (ts:List Tr)(v:Vt):Int:=match ts[v.1]? with | some t=>t.2.2 | none=>0
theorem CC {rs:List Int}{ts:List Tr}{v:Vt}{t:Tr}(ht:ts[v.1]?=some t){u:Vt×Int}:u∈wP rs ts v↔∃ a,(a,v.2)∈(az t).zip (az t).tail∧u=((v.1,a),rs.getD a 0):=by
 unfold wP
 rw [ht]
 dsimp only
 rw [List.mem_filterMap]
 constructor
 ·intro hZ28
  obtain ⟨x,hx,e⟩:=hZ28
  by_cases z:x.2=v.2
  ·rw [if_pos z] at e; cases e; exact ⟨x.1,by rw [← z]; exact hx,rfl⟩
  ·rw [if_neg z] at e; cases e
 ·intro hZ29
  obtain ⟨a,ha,e⟩:=hZ29
  exact ⟨(a,v.2),ha,by rw [if_pos rfl,e]⟩
theorem mem_wO {rs:List Int}{g:Int}{O:List (List Nat)}{v:Vt}{u:Vt×Int}:u∈wO rs g O v↔∃ a,(a,v.1)∈(O.getD v.2 []).zip (O.getD v.2 []).tail∧u=((a,v.2),rs.getD v.2 0+g):=by
 unfold wO
 rw [List.mem_filterMap]
 constructor
 ·intro hZ30
  obtain ⟨x,hx,e⟩:=hZ30
  by_cases z:x.2=v.1
  ·rw [if_pos z] at e; cases e; exact ⟨x.1,by rw [← z]; exact hx,rfl⟩
  ·rw [if_neg z] at e; cases e
 ·intro hZ31
  obtain ⟨a,ha,e⟩:=hZ31
  exact ⟨(a,v.1),ha,by rw [if_pos rfl,e]⟩
structure Ords (n:Nat)(ts:List Tr)(O:List (List Nat)):Prop where
 len:O.length=n
 nd:∀ s,(O.getD s []).Nodup
 mem:∀ s k,s < n→(k∈O.getD s []↔(k,s)∈ak ts)
theorem dq {α:Type}{l:List α}{u:α×α}(h:u∈l.zip l.tail):u.1∈l∧u.2∈l:=⟨(List.of_mem_zip h).1,List.mem_of_mem_tail (List.of_mem_zip h).2⟩
theorem yJ {rs:List Int}{g:Int}{ts:List Tr}{O:List (List Nat)}(C:Ctx rs g ts)(H:Ords rs.length ts O):∀ v∈ak ts,∀ u∈jn rs g ts O v,1≤u.2∧u.1∈ak ts:=by
 intro v hv u hu
 obtain ⟨t,ht,hs⟩:=mem_visits.mp hv
 have hg:Good rs.length t:=C.tr t (List.mem_of_getElem? ht)
 rcases List.mem_append.mp hu with z | z
 ·obtain ⟨a,ha,e⟩:=(CC ht).mp z
  subst e
  have ha':=(dq ha).1
  exact ⟨(qo C.ln (cr hg a ha')).1,mem_visits.mpr ⟨t,ht,ha'⟩⟩
 ·obtain ⟨a,ha,e⟩:=mem_wO.mp z
  subst e
  have hlt:=cr hg v.2 hs
  have h1:=(qo C.ln hlt).1
  have h2:=C.ln.gap.1
  exact ⟨by show 1≤rs.getD v.2 0+g; omega,(H.mem v.2 a hlt).mp (dq ha).1⟩
theorem HP {w:List Nat}{n:Nat}:plL n (au w)=true:=lV w fun _ _=>k8
theorem lN {a b:Nat}:bR (.int (a:Int)) (.int (b:Int))=decide (a=b):=by
 unfold bR
 by_cases h:a=b
 ·subst h; simp
 ·rw [decide_eq_false h]
  simp
  omega
theorem HE {w:List Nat}{s:Nat}:kC false (.int (s:Int)) (.lst (au w))= .ok (.bl (decide (s∈w))):=by
 unfold kC
 dsimp only
 rw [if_pos ⟨HP,k8⟩]
 congr 2
 unfold au
 rw [if_neg Bool.false_ne_true,List.any_map]
 by_cases h:s∈w
 ·rw [decide_eq_true h,List.any_eq_true]
  exact ⟨s,h,by show bR _ _=true; rw [lN]; simp⟩
 ·rw [decide_eq_false h,List.any_eq_false]
  intro x hx
  show ¬ bR _ _=true
  rw [lN]
  simp
  exact fun z=>h (z ▸ hx)
noncomputable def a7 (O:List (List Nat)):D:= .lst (O.map fun o=> .lst (au o))
theorem qJ {l:List D}:fj (some 1) none (.lst l)= .ok (.lst l.tail):=by
 show Res.ok (D.lst ((l.drop (HT.cv l.length 0 (some 1))).take (HT.cv l.length l.length none - HT.cv l.length 0 (some 1))))=_
 have e1:HT.cv l.length 0 (some 1)=min 1 l.length:=HT.AA l.length 0 1
 have e2:HT.cv l.length l.length none=l.length:=rfl
 rw [e1,e2]
 cases l with
 | nil=>rfl
 | cons a l=>
  have:min 1 (a :: l).length=1:=by rw [List.length_cons]; omega
  rw [this,List.length_cons]
  show Res.ok (D.lst (l.take (l.length+1 - 1)))=_
  rw [Nat.add_sub_cancel,List.take_length]
  rfl
set_option maxHeartbeats 1000000
noncomputable def iJ (v:Vt):List bu:=[.inl (v.1:Int),.inl (v.2:Int)]
noncomputable def vD (v:Vt):D:= .tup [.int (v.1:Int),.int (v.2:Int)]
noncomputable def wD (u:Vt×Int):D:= .tup [vD u.1,.int u.2]
noncomputable def lW (W:Vt→List (Vt×Int))(v:Vt):D:= .lst ((W v).map wD)
noncomputable def dW (vs:List Vt)(W:Vt→List (Vt×Int)):D:= .dct (vs.map iJ) (vs.map (lW W))
noncomputable def fW (vs:List Vt)(W:Vt→List (Vt×Int)):D:= .fdc (vs.map iJ) (vs.map (lW W))
theorem pZ {a b:Vt}(h:iJ a=iJ b):a=b:=by
 unfold iJ at h
 injection h with h1 h2
 injection h1 with h1
 injection h2 with h2
 injection h2 with h2
 exact Prod.ext (by omega) (by omega)
theorem mU {v:Vt}:gb [.int (v.1:Int),.int (v.2:Int)]=some (iJ v):=rfl
theorem xr {vs:List Vt}{v:Vt}(h:v∉vs):cc (vs.map iJ) (iJ v)=none:=by
 unfold cc
 rw [List.findIdx?_eq_none_iff]
 intro k hk
 obtain ⟨u,hu,rfl⟩:=List.mem_map.mp hk
 exact decide_eq_false fun z=>h (pZ z ▸ hu)
theorem vK {vs:List Vt}{v:Vt}(h:v∈vs):∃ m,cc (vs.map iJ) (iJ v)=some m∧vs[m]?=some v:=by
 cases q:cc (vs.map iJ) (iJ v) with
 | none=>
  unfold cc at q
  rw [List.findIdx?_eq_none_iff] at q
  have:=q (iJ v) (List.mem_map_of_mem h)
  simp at this
 | some m=>
  refine ⟨m,rfl,?_⟩
  unfold cc at q
  obtain ⟨h1,h2,_⟩:=List.findIdx?_eq_some_iff_getElem.mp q
  rw [List.getElem_map] at h2
  rw [List.length_map] at h1
  rw [ij h1,pZ (of_decide_eq_true h2)]
theorem tU {f:Vt→D}:∀ {vs:List Vt} {v:Vt},v∈vs→qv (vs.map iJ) (vs.map f) (iJ v)=some (f v)
 | a :: vs,v,h=>by
  rw [List.map_cons,List.map_cons]
  unfold qv
  by_cases e:a=v
  ·subst e; rw [if_pos rfl]
  ·rw [if_neg (fun z=>e (pZ z))]
   rcases List.mem_cons.mp h with z | z
   ·exact absurd z.symm e
   ·exact tU z
theorem sy {f:Vt→D}{vs:List Vt}{v:Vt}(h:v∈vs):cu (.fdc (vs.map iJ) (vs.map f)) (vD v)= .ok (f v):=by
 show jS (vs.map iJ) (vs.map f) [.int (v.1:Int),.int (v.2:Int)]=_
 unfold jS
 rw [mU]
 dsimp only
 rw [tU h]
theorem BI {f:Vt→D}{vs:List Vt}{v:Vt}(h:v∈vs):cu (.dct (vs.map iJ) (vs.map f)) (vD v)= .ok (f v):=by
 show jS (vs.map iJ) (vs.map f) [.int (v.1:Int),.int (v.2:Int)]=_
 unfold jS
 rw [mU]
 dsimp only
 rw [tU h]
theorem uU {f:Vt→D}{vs:List Vt}{v:Vt}(h:v∉vs):lF (vs.map iJ) (vs.map f) (iJ v) (f v)= .dct ((vs ++ [v]).map iJ) ((vs ++ [v]).map f):=by
 unfold lF
 rw [xr h]
 simp only [List.map_append,List.map_cons,List.map_nil]
noncomputable def cQ (E:List (Vt×Vt×Int))(v:Vt):List (Vt×Int):=E.filterMap fun e=>if e.1=v then some e.2 else none
theorem l9 {E F:List (Vt×Vt×Int)}{v:Vt}:cQ (E ++ F) v=cQ E v ++ cQ F v:=List.filterMap_append ..
theorem t_ {E:List (Vt×Vt×Int)}{v:Vt}(h:∀ e∈E,e.1≠v):cQ E v=[]:=by
 unfold cQ
 rw [List.filterMap_eq_nil_iff]
 intro e he
 rw [if_neg (h e he)]
theorem qA {E:List (Vt×Vt×Int)}{v:Vt}:(cQ E v).length≤E.length:=List.length_filterMap_le ..
theorem BD {vs:List Vt}{E:List (Vt×Vt×Int)}{v:Vt}{u:Vt×Int}{m:Nat}(nd:vs.Nodup)(h:vs[m]?=some v):ir [m] (dW vs (cQ E)) (.lst ((cQ E v).map wD ++ [wD u]))=dW vs (cQ (E ++ [(v,u)])):=by
 have hk:(vs.map (lW (cQ E)))[m]?=some (lW (cQ E) v):=by rw [List.getElem?_map,h]; rfl
 unfold ir dW
 simp only [gc,hk,rK,ir]
 congr 1
 refine List.ext_getElem? fun i=> ?_
 rw [List.getElem?_set,List.getElem?_map]
 by_cases hi:m=i
 ·subst hi
  have hl:m < (vs.map (lW (cQ E))).length:=(fG hk).1
  rw [if_pos rfl,if_pos hl,List.getElem?_map,h]
  show some _=some (lW (cQ (E ++ [(v,u)])) v)
  unfold lW
  rw [l9]
  have:cQ [(v,u)] v=[u]:=by unfold cQ; rw [List.filterMap_cons_some (b:=u) (by rw [if_pos rfl])]; rfl
  rw [this,List.map_append]
  rfl
 ·rw [if_neg hi,List.getElem?_map]
  cases q:vs[i]? with
  | none=>rfl
  | some x=>
   show some (lW _ x)=some (lW _ x)
   have hx:x≠v:=fun z=>hi ((List.getElem?_inj (fG h).1 nd).mp (by rw [h,q,z]))
   have:cQ [(v,u)] x=[]:=t_ fun e he=>by rw [List.mem_singleton.mp he]; exact fun z=>hx z.symm
   unfold lW
   rw [l9,this,List.append_nil]
theorem Co {vs:List Vt}{W:Vt→List (Vt×Int)}{v:Vt}{m:Nat}(h:vs[m]?=some v):fR [m] (dW vs W)=some (.lst ((W v).map wD)):=by
 have hk:(vs.map (lW W))[m]?=some (lW W v):=by rw [List.getElem?_map,h]; rfl
 unfold fR dW
 simp only [gc,hk,fR]
 rfl
noncomputable def pJ (rs:List Int)(k:Nat)(us:List (Nat×Nat)):List (Vt×Vt×Int):=us.map fun u=>((k,u.2),(k,u.1),rs.getD u.1 0)
noncomputable def ui (rs:List Int)(qs:List Q):List (Vt×Vt×Int):=qs.flatMap fun q=>pJ rs q.2 ((az q.1).zip (az q.1).tail)
noncomputable def pH (rs:List Int)(g:Int)(s:Nat)(us:List (Nat×Nat)):List (Vt×Vt×Int):=us.map fun u=>((u.2,s),(u.1,s),rs.getD s 0+g)
noncomputable def yN (rs:List Int)(g:Int)(os:List (List Nat×Nat)):List (Vt×Vt×Int):=os.flatMap fun o=>pH rs g o.2 (o.1.zip o.1.tail)
noncomputable def iw (qs:List Q):List Vt:=qs.flatMap fun q=>(az q.1).map fun s=>(q.2,s)
theorem yM {α:Type}{l:List α}:l.zipIdx.Pairwise fun a b=>a.2≠b.2:=by
 have:(l.zipIdx.map Prod.snd).Nodup:=by rw [List.zipIdx_map_snd]; exact List.nodup_range'
 rw [List.nodup_iff_pairwise_ne,List.pairwise_map] at this
 exact this
theorem on {α β:Type}{l:List α}{f:α×Nat→List β}{k:Nat}{x:α}(hx:l[k]?=some x)(h:∀ q∈l.zipIdx,q.2≠k→f q=[]):l.zipIdx.flatMap f=f (x,k):=by
 obtain ⟨a,b,e⟩:=List.append_of_mem (show (x,k)∈l.zipIdx from mem_zip.mpr hx)
 have pw:=yM (l:=l)
 rw [e] at pw h ⊢
 obtain ⟨_,p2,p3⟩:=List.pairwise_append.mp pw
 have ha:a.flatMap f=[]:=List.flatMap_eq_nil_iff.mpr fun q hq=>h q (List.mem_append_left _ hq) (p3 q hq (x,k) (List.mem_cons_self ..))
 have hb:b.flatMap f=[]:=List.flatMap_eq_nil_iff.mpr fun q hq=>h q (List.mem_append_right _ (cI hq)) (fun z=>(List.pairwise_cons.mp p2).1 q hq z.symm)
 rw [List.flatMap_append,List.flatMap_cons,ha,hb,List.nil_append,List.append_nil]
theorem ua {rs:List Int}{g:Int}{ts:List Tr}{O:List (List Nat)}{v:Vt}(hv:v∈ak ts)(hs:v.2 < O.length):cQ (ui rs ts.zipIdx ++ yN rs g O.zipIdx) v=jn rs g ts O v:=by
 obtain ⟨t,ht,_⟩:=mem_visits.mp hv
 rw [l9]
 unfold jn
 congr 1
 ·unfold cQ ui
  rw [List.filterMap_flatMap,on ht]
  ·unfold wP pJ
   rw [ht]
   dsimp only
   rw [List.filterMap_map]
   congr 1
   funext u
   show (if (v.1,u.2)=v then _ else _)=_
   by_cases z:u.2=v.2
   ·rw [if_pos z,if_pos (show (v.1,u.2)=v from Prod.ext rfl z)]
   ·have hz:¬ (v.1,u.2)=v:=fun y=>z (by have:=congrArg (fun x:Vt=>x.2) y; exact this)
    rw [if_neg z,if_neg hz]
  ·intro q _ hq
   unfold pJ
   rw [List.filterMap_map,List.filterMap_eq_nil_iff]
   intro u _
   show (if (q.2,u.2)=v then _ else _)=_
   rw [if_neg (show ¬ (q.2,u.2)=v from fun y=>hq (congrArg Prod.fst y))]
 ·unfold cQ yN
  rw [List.filterMap_flatMap,on (dH (d:=[]) hs)]
  ·unfold wO pH
   rw [List.filterMap_map]
   congr 1
   funext u
   show (if (u.2,v.2)=v then _ else _)=_
   by_cases z:u.2=v.1
   ·rw [if_pos z,if_pos (show (u.2,v.2)=v from Prod.ext z rfl)]
   ·rw [if_neg z,if_neg (show ¬ (u.2,v.2)=v from fun y=>z (congrArg Prod.fst y))]
  ·intro q _ hq
   unfold pH
   rw [List.filterMap_map,List.filterMap_eq_nil_iff]
   intro u _
   show (if (u.2,q.2)=v then _ else _)=_
   rw [if_neg (show ¬ (u.2,q.2)=v from fun y=>hq (congrArg Prod.snd y))]
section
variable{K:W.Frag}{CL:Addr}
noncomputable def fS (ts:List Tr)(s:Nat):List Nat:=(ts.zipIdx.filter fun q=>decide (s∈az q.1)).map fun q=>q.2
theorem going_mem {ts:List Tr}{s k:Nat}:k∈fS ts s↔(k,s)∈ak ts:=by
 unfold fS
 rw [List.mem_map,mem_visits]
 constructor
 ·intro hZ32
  obtain ⟨q,hq,rfl⟩:=hZ32
  obtain ⟨h1,h2⟩:=List.mem_filter.mp hq
  exact ⟨q.1,mem_zip.mp h1,of_decide_eq_true h2⟩
 ·intro hZ33
  obtain ⟨t,ht,h⟩:=hZ33
  exact ⟨(t,k),List.mem_filter.mpr ⟨mem_zip.mpr ht,decide_eq_true h⟩,rfl⟩
theorem going_lt {ts:List Tr}{s:Nat}:(fS ts s).Pairwise (· < ·):=by
 unfold fS
 have h:(ts.zipIdx.map Prod.snd).Pairwise (· < ·):=by rw [List.zipIdx_map_snd]; exact List.pairwise_lt_range'
 exact h.sublist (List.filter_sublist.map _)
theorem tM {n:Nat}{ts:List Tr}{O:List (List Nat)}(H:Ords n ts O){s:Nat}(hs:s < n)(h5:ts.length≤5):lb [.lst (au (O.getD s []))]= .ok (.lst (au (fS ts s))):=by
 have hl:(O.getD s []).length≤ts.length:=by
  have:=b0 (vs:=List.range ts.length) (H.nd s) fun k hk=>by
   obtain ⟨t,ht,_⟩:=mem_visits.mp ((H.mem s k hs).mp hk)
   exact List.mem_range.mpr (fG ht).1
  rwa [List.length_range] at this
 have e1:au (O.getD s [])=((O.getD s []).map fun (k:Nat)=>(k:Int)).map D.int:=by unfold au; rw [List.map_map]; rfl
 have e2:au (fS ts s)=((fS ts s).map fun (k:Nat)=>(k:Int)).map D.int:=by unfold au; rw [List.map_map]; rfl
 unfold lb
 dsimp only
 rw [e1,fz]
 dsimp only
 rw [if_pos (by rw [List.length_map]; omega),e2]
 congr 3
 refine ma ((ld _).trans (List.Perm.map _ ?_)) (rS _) ?_
 ·exact (List.perm_ext_iff_of_nodup (H.nd s) (going_lt.imp fun {a b} h=>by omega)).mpr fun k=>(H.mem s k hs).trans going_mem.symm
 ·rw [List.pairwise_map]
  exact going_lt.imp fun {a b} h=>by omega
theorem mm {n:Nat}{ts:List Tr}{O:List (List Nat)}(H:Ords n ts O)(hn:n≤1000)(h5:ts.length≤5)(hw:∀ t∈ts,(az t).length≤1000):bM K CL [.int (n:Int),.lst (ts.map aG),a7 O]= .ok .non:=by
 unfold bM
 refine (bz rfl).trans ?_
 have e0:aH cX [.int (n:Int),.lst (ts.map aG),a7 O]=[some (.int (n:Int)),some (.lst (ts.map aG)),some (a7 O),none,none,none]:=rfl
 rw [e0]
 unfold cS a7
 simp only [aR,fF,H.len]
 obtain ⟨ρ',h1,_⟩:=lY (xs:=O.zipIdx) (c:=fun q:List Nat×Nat=>D.tup [.int (q.2:Int),.lst (au q.1)]) (asg:=fq 3 4) (F:=ay (aP 5 (aF (sE (pC (ab 1) pN)) [none,none,some 3] (fq 0 1) (f7 (ac (ab 2) (ab 1) (kC false))) (ab 0))) (lC (f7 (ac (c1 (ab 4) lb) (ab 5) vW)) bad1 nxt)) (P:=fun _=>True)
  (ρ:=[some (.int (n:Int)),some (.lst (ts.map aG)),some (.lst (O.map fun o=> .lst (au o))),none,none,none])
  (fun _ ρ=>∃ o3 o4 o5,ρ=[some (.int (n:Int)),some (.lst (ts.map aG)),some (.lst (O.map fun o=> .lst (au o))),o3,o4,o5]) (EN _ _ _ rfl) (fun pre q post exs ρ hZ166=>by
   refine AT (hZ166) fun o3 o4 o5 e=> ?_
   subst e
   refine ⟨_,rfl,?_⟩
   have hq:q∈O.zipIdx:=by rw [exs]; simp
   have hz:=mem_zip.mp hq
   have hs:q.2 < n:=by rw [← H.len]; exact (fG hz).1
   have e1:O.getD q.2 []=q.1:=by rw [List.getD_eq_getElem?_getD,hz]; rfl
   have srt:=tM H hs h5
   rw [e1] at srt
   have cg:aF (sE (pC (ab 1) pN)) [none,none,some 3] (fq 0 1) (f7 (ac (ab 2) (ab 1) (kC false))) (ab 0) [some (.int (n:Int)),some (.lst (ts.map aG)),some (.lst (O.map fun o=> .lst (au o))),some (.int (q.2:Int)),some (.lst (au q.1)),o5]= .ok (.lst (au (fS ts q.2))):=by
    rw [dI (xs:=ts.zipIdx) (c:=fun u:Q=>D.tup [.int (u.2:Int),aG u.1]) (p:=fun u=>decide (q.2∈az u.1)) (g:=fun u=>D.int (u.2:Int)) (by simp only [aR,fF]) (by rw [List.length_zipIdx]; omega) (fun u hu=>(ik _ rfl ?_ (fun _=> ?_)))]
    ·unfold fS au; rw [List.map_map]; rfl
    ·have:=HE (w:=az u.1) (s:=q.2)
     show f7 (ac (ab 2) (ab 1) (kC false)) [some (.int (u.2:Int)),some (.lst (au (az u.1))),some (.int (q.2:Int))]=_
     simp only [aR,this]
    ·rfl
   simp only [aR,cg,srt,uD (d:= .lst (au (fS ts q.2))) (qj fun _ _=>k8)]
   exact (EH _ rfl _ _ _ rfl)) (fun _ _=>trivial)
 rw [h1]
 rfl
end
set_option maxHeartbeats 1000000
section
variable{K:W.Frag}{CL:Addr}
theorem qB {vs:List Vt}{E:List (Vt×Vt×Int)}{v:Vt}{u:Vt×Int}{ρ:DS}{fi f:DS→Res D}(nd:vs.Nodup)(hv:v∈vs)(hE:E.length≤100000)(h:ρ[5]?=some (some (dW vs (cQ E))))(hi:fi ρ= .ok (vD v))(hf:f ρ= .ok (wD u)):pj 5 1 (yV 5 0 (vc 5) fi) f ρ= .nx (ρ.set 5 (some (dW vs (cQ (E ++ [(v,u)]))))):=by
 obtain ⟨m,h1,h2⟩:=vK hv
 have key:=(y_ (g:=yV 5 0 (vc 5) fi) (f:=f) (j:=5) (n:=1) (p:=[m]) (t:=dW vs (cQ E)) (rows:=(cQ E v).map wD) (BQ (p:=[]) (n:=0) (kd:=[.int (v.1:Int),.int (v.2:Int)]) (k:=iJ v) (t:=dW vs (cQ E)) (m:=m) (ks:=vs.map iJ) (l:=vs.map (lW (cQ E))) (wR h) rfl hi mU h rfl h1) hf rfl h (Co h2) (by rw [List.length_map]; exact Nat.le_trans qA hE))
 rw [BD nd h2] at key
 exact key
theorem wL {vs:List Vt}{W:Vt→List (Vt×Int)}{v:Vt}{ρ:DS}{fi f:DS→Res D}(hv:v∉vs)(hW:W v=[])(hl:vs.length≤100000)(h:ρ[5]?=some (some (dW vs W)))(hi:fi ρ= .ok (vD v))(hf:f ρ= .ok (.lst [])):jU 5 fi f ρ= .nx (ρ.set 5 (some (dW (vs ++ [v]) W))):=by
 have e:(D.lst []:D)=lW W v:=by unfold lW; rw [hW]; rfl
 rw [e] at hf
 rw [uj (ks:=vs.map iJ) (l:=vs.map (lW W)) (k:=iJ v) (kd:=[.int (v.1:Int),.int (v.2:Int)]) h hf hi mU (by rw [List.length_map]; exact hl),uU hv]
 rfl
noncomputable abbrev rW (CL:Addr)(rs:List Int)(g:Int)(ts:List Tr)(O:List (List Nat))(d:D)(o6 o7 o8 o9 o10 o11:Option D):DS:=[some (aN CL rs g),some (.lst (ts.map aG)),some (a7 O),some (.lst (rs.map D.int)),some (.int g),some d,o6,o7,o8,o9,o10,o11]
theorem lO {rs:List Int}:∀ {qs:List Q},(∀ q∈qs,(az q.1).length≤5)→(ui rs qs).length≤5 * qs.length
 | [],_=>Nat.le_refl _
 | q :: qs,h=>by
  have ih:=lO (rs:=rs) (qs:=qs) fun u hu=>h u (cI hu)
  have h1:=h q (List.mem_cons_self ..)
  unfold ui at ih ⊢
  rw [List.flatMap_cons,List.length_append,List.length_cons]
  have:(pJ rs q.2 ((az q.1).zip (az q.1).tail)).length≤5:=by
   unfold pJ
   rw [List.length_map,List.length_zip]
   omega
  omega
theorem pI {rs:List Int}{g:Int}:∀ {os:List (List Nat×Nat)},(∀ o∈os,o.1.length≤5)→(yN rs g os).length≤5 * os.length
 | [],_=>Nat.le_refl _
 | q :: qs,h=>by
  have ih:=pI (rs:=rs) (g:=g) (os:=qs) fun u hu=>h u (cI hu)
  have h1:=h q (List.mem_cons_self ..)
  unfold yN at ih ⊢
  rw [List.flatMap_cons,List.length_append,List.length_cons]
  have:(pH rs g q.2 (q.1.zip q.1.tail)).length≤5:=by
   unfold pH
   rw [List.length_map,List.length_zip]
   omega
  omega
theorem nz:∀ {qs:List Q},(∀ q∈qs,(az q.1).length≤5)→(iw qs).length≤5 * qs.length
 | [],_=>Nat.le_refl _
 | q :: qs,h=>by
  have ih:=nz (qs:=qs) fun u hu=>h u (cI hu)
  have h1:=h q (List.mem_cons_self ..)
  unfold iw at ih ⊢
  rw [List.flatMap_cons,List.length_append,List.length_cons,List.length_map]
  omega
theorem visQ_mem {qs:List Q}{v:Vt}:v∈iw qs↔∃ q∈qs,q.2=v.1∧v.2∈az q.1:=by
 unfold iw
 rw [List.mem_flatMap]
 constructor
 ·intro hZ34
  refine cps fun PP kP=> ?_
  obtain ⟨q,hq,h⟩:=hZ34
  obtain ⟨s,hs,rfl⟩:=List.mem_map.mp h
  refine kP ?_; clear kP PP
  exact (ik q hq rfl hs)
 ·intro hZ35
  refine cw (hZ35) fun q hq h1 h2=> ?_
  exact ⟨q,hq,List.mem_map.mpr ⟨v.2,h2,by rw [h1]⟩⟩
theorem yH {ts:List Tr}{pre post:List Q}(e:ts.zipIdx=pre ++ post):(iw pre).Nodup:=by
 have:ak ts=iw pre ++ iw post:=by unfold ak iw; rw [e,List.flatMap_append]
 have h:=bW (ts:=ts)
 rw [this] at h
 exact (List.nodup_append.mp h).1
theorem uG {n:Nat}{ts:List Tr}{O:List (List Nat)}(H:Ords n ts O){s:Nat}(hs:s < n):(O.getD s []).length≤ts.length:=by
 have:=b0 (vs:=List.range ts.length) (H.nd s) fun k hk=>by
  obtain ⟨t,ht,_⟩:=mem_visits.mp ((H.mem s k hs).mp hk)
  exact List.mem_range.mpr (fG ht).1
 rwa [List.length_range] at this
theorem tV {rs:List Int}{g:Int}{ts:List Tr}{O:List (List Nat)}(C:Ctx rs g ts)(H:Ords rs.length ts O):eT K CL [aN CL rs g,.lst (ts.map aG),a7 O]= .ok (dW (ak ts) (jn rs g ts O)):=by
 have h5:∀ q∈ts.zipIdx,(az q.1).length≤5:=fun q hq=>by
  have:=fm (C.good hq)
  have:=C.ln.few
  omega
 have hn5:=C.ln.few
 have ht5:=C.few
 have hck:bM K CL [.int (rs.length:Int),.lst (ts.map aG),a7 O]= .ok .non:=mm H (by omega) C.few fun t ht=>by
  have:=fm (C.tr t ht)
  omega
 unfold eT
 refine (bz rfl).trans ?_
 have e0:aH jo [aN CL rs g,.lst (ts.map aG),a7 O]=[some (aN CL rs g),some (.lst (ts.map aG)),some (a7 O),none,none,none,none,none,none,none,none,none]:=rfl
 rw [e0]
 unfold gy
 simp only [aR,Gc,HF,mr,ja,hck,fF]
 refine ki (fun pre i=>∃ F G B p m n,i=rW CL rs g ts O (dW (iw pre) (cQ (ui rs pre))) F G B p m n) (zJ none none none none none none rfl) (fun pre q post r i hZ167=> ?_) (fun P hZ168=> ?_)
 ·refine AW (hZ167) fun F G B p m n e=> ?_
  subst e
  refine ⟨_,rfl,?_⟩
  have hq:q∈ts.zipIdx:=by rw [r]; simp
  have hsub:∀ u∈pre,u∈ts.zipIdx:=fun u w=>by rw [r]; exact List.mem_append_left _ w
  have hne:∀ u∈pre,u.2≠q.2:=fun u w=>by
   have pw:=yM (l:=ts)
   rw [r] at pw
   exact (List.pairwise_append.mp pw).2.2 u w q (List.mem_cons_self ..)
  have hpl:pre.length≤5:=by
   have:=congrArg List.length r
   rw [List.length_zipIdx,List.length_append] at this
   omega
  have hEl:(ui rs pre).length≤25:=by
   have:=lO (rs:=rs) (qs:=pre) fun u w=>h5 u (hsub u w)
   omega
  have hVl:(iw pre).length≤25:=by
   have:=nz (qs:=pre) fun u w=>h5 u (hsub u w)
   omega
  have hEne:∀ e∈ui rs pre,e.1.1≠q.2:=fun e he=>by
   refine cps fun PP kP=> ?_
   obtain ⟨u,w,h⟩:=List.mem_flatMap.mp he
   obtain ⟨x,_,rfl⟩:=List.mem_map.mp h
   refine kP ?_; clear kP PP
   exact hne u w
  have hw5:=h5 q hq
  have hzp:sd [aG q.1,.lst (au (az q.1)).tail]= .ok (((az q.1).zip (az q.1).tail).map fun u=> .tup [.int (u.1:Int),.int (u.2:Int)]):=by
   unfold aG au
   rw [← List.map_tail]
   exact sG
  have hcut:fj (some 1) none (aG q.1)= .ok (.lst (au (az q.1)).tail):=qJ
  have hseq:AE (aG q.1)= .ok ((az q.1).map fun (s:Nat)=>D.int (s:Int)):=rfl
  simp only [aR,hseq]
  refine wd (c:=fun (s:Nat)=>D.int (s:Int)) (xs:=az q.1) (fun ps i=>∃ B p m n,i=rW CL rs g ts O (dW (iw pre ++ ps.map fun s=>(q.2,s)) (cQ (ui rs pre))) (some (.int (q.2:Int))) (some (aG q.1)) B p m n) (Cr B p m n (by rw [List.map_nil,List.append_nil])) (fun ps s po A i hZ169=> ?_) (fun P hZ170=> ?_)
  ·refine AV (hZ169) fun B p m n e=> ?_
   subst e
   refine ⟨_,rfl,?_⟩
   have nv:(q.2,s)∉iw pre ++ ps.map fun s=>(q.2,s):=fun z=>by
    rcases List.mem_append.mp z with y | y
    ·refine cw (visQ_mem.mp y) fun u w h1 _=> ?_
     exact hne u w h1
    ·obtain ⟨s',hs',e⟩:=List.mem_map.mp y
     have e:=(Prod.mk.inj e).2
     subst e
     have nd:=ie (t:=q.1)
     rw [A] at nd
     exact (List.nodup_append.mp nd).2.2 s' hs' s' (List.mem_cons_self ..) rfl
   have hpsl:ps.length≤5:=by
    have:=congrArg List.length A
    rw [List.length_append] at this
    omega
   refine (EI _ (wL (v:=(q.2,s)) nv (t_ fun e he z=>hEne e he (congrArg Prod.fst z)) (by rw [List.length_append,List.length_map]; omega) rfl (by simp only [aR]; rfl) (by simp only [aR])) (some (.int (s:Int))) p m n ?_)
   rw [List.map_append,← List.append_assoc]
   rfl
  ·refine AV (hZ170) fun B p m n e=> ?_
   subst e
   simp only [aR,hcut,hzp]
   have ndv:(iw pre ++ (az q.1).map fun s=>(q.2,s)).Nodup:=by
    have:=yH (pre:=pre ++ [q]) (post:=post) (by rw [r]; simp)
    unfold iw at this
    rw [List.flatMap_append,List.flatMap_singleton] at this
    exact this
   refine lY (fun us i=>∃ p m,i=rW CL rs g ts O (dW (iw pre ++ (az q.1).map fun s=>(q.2,s)) (cQ (ui rs pre ++ pJ rs q.2 us))) (some (.int (q.2:Int))) (some (aG q.1)) B p m n) ⟨p,m,by unfold pJ; rw [List.map_nil,List.append_nil]⟩ (fun us u po A i hZ171=> ?_) (fun P hZ172=> ?_)
   ·obtain ⟨p,m,e⟩:=hZ171
    subst e
    refine ⟨_,rfl,?_⟩
    have w:u∈(az q.1).zip (az q.1).tail:=by rw [A]; simp
    have E:=dq w
    have hlt:u.1 < rs.length:=cr (C.good hq) _ E.1
    have y0:=b8 (g:=D.int) (dH (d:=0) hlt)
    have hul:us.length≤5:=by
     have:=congrArg List.length A
     rw [List.length_append,List.length_zip] at this
     omega
    refine (xl _ (qB (v:=(q.2,u.2)) (u:=((q.2,u.1),rs.getD u.1 0)) ndv (List.mem_append_right _ (List.mem_map.mpr ⟨u.2,E.2,rfl⟩)) (by unfold pJ; rw [List.length_append,List.length_map]; omega) rfl (by simp only [aR]; rfl) (by simp only [aR,y0]; rfl)) (some (.int (u.1:Int))) (some (.int (u.2:Int))) ?_)
    unfold pJ
    rw [List.map_append,← List.append_assoc]
    rfl
   ·obtain ⟨p,m,e⟩:=hZ172
    refine (zJ (some (.int (q.2:Int))) (some (aG q.1)) B p m n ?_)
    rw [e]
    unfold iw ui
    rw [List.flatMap_append,List.flatMap_singleton,List.flatMap_append,List.flatMap_singleton]
 ·refine AW (hZ168) fun F G B p m n e=> ?_
  subst e
  have hv0:iw ts.zipIdx=ak ts:=rfl
  rw [hv0]
  unfold rW a7
  simp only [aR,fF]
  have hEl:(ui rs ts.zipIdx).length≤25:=by
   have:=lO (rs:=rs) (qs:=ts.zipIdx) h5
   rw [List.length_zipIdx] at this
   omega
  have hO5:∀ o∈O.zipIdx,o.1.length≤5:=fun o ho=>by
   have E:=mem_zip.mp ho
   have hs:o.2 < rs.length:=by rw [← H.len]; exact (fG E).1
   have:=uG H hs
   have e1:O.getD o.2 []=o.1:=by rw [List.getD_eq_getElem?_getD,E]; rfl
   rw [e1] at this
   omega
  refine ki (c:=fun o:List Nat×Nat=>D.tup [.int (o.2:Int),.lst (au o.1)]) (xs:=O.zipIdx) (fun pre i=>∃ F G B p m n,i=rW CL rs g ts O (dW (ak ts) (cQ (ui rs ts.zipIdx ++ yN rs g pre))) F G B p m n) (zJ F G B p m n (by unfold yN; rw [List.flatMap_nil,List.append_nil]; rfl)) (fun pre q post r i hZ173=> ?_) (fun P hZ174=> ?_)
  ·refine AW (hZ173) fun F G B p m n e=> ?_
   subst e
   refine ⟨_,rfl,?_⟩
   have hq:q∈O.zipIdx:=by rw [r]; simp
   have E:=mem_zip.mp hq
   have hs:q.2 < rs.length:=by rw [← H.len]; exact (fG E).1
   have e1:O.getD q.2 []=q.1:=by rw [List.getD_eq_getElem?_getD,E]; rfl
   have y0:=b8 (g:=D.int) (dH (d:=0) hs)
   have hpl:pre.length≤5:=by
    have:=congrArg List.length r
    rw [List.length_zipIdx,List.length_append,H.len] at this
    omega
   have hOl:(yN rs g pre).length≤25:=by
    have:=pI (rs:=rs) (g:=g) (os:=pre) fun u w=>hO5 u (by rw [r]; exact List.mem_append_left _ w)
    omega
   have hzp:sd [.lst (au q.1),.lst (au q.1).tail]= .ok ((q.1.zip q.1.tail).map fun u=> .tup [.int (u.1:Int),.int (u.2:Int)]):=by
    unfold au
    rw [← List.map_tail]
    exact sG
   simp only [aR,qJ,hzp]
   refine lY (fun us i=>∃ p m,i=rW CL rs g ts O (dW (ak ts) (cQ (ui rs ts.zipIdx ++ yN rs g pre ++ pH rs g q.2 us))) F G (some (.int (q.2:Int))) p m (some (.lst (au q.1)))) ⟨p,m,by unfold pH; rw [List.map_nil,List.append_nil]⟩ (fun us u po A i hZ175=> ?_) (fun P hZ176=> ?_)
   ·obtain ⟨p,m,e⟩:=hZ175
    subst e
    refine ⟨_,rfl,?_⟩
    have w:u∈q.1.zip q.1.tail:=by rw [A]; simp
    have E:=dq w
    have hul:us.length≤5:=by
     have:=congrArg List.length A
     have:=hO5 q hq
     rw [List.length_append,List.length_zip] at *
     omega
    have hv:(u.2,q.2)∈ak ts:=(H.mem q.2 u.2 hs).mp (by rw [e1]; exact E.2)
    refine (xl _ (qB (v:=(u.2,q.2)) (u:=((u.1,q.2),rs.getD q.2 0+g)) bW hv (by unfold pH; rw [List.length_append,List.length_append,List.length_map]; omega) rfl (by simp only [aR]; rfl) (by simp only [aR,y0]; rfl)) (some (.int (u.1:Int))) (some (.int (u.2:Int))) ?_)
    unfold pH
    rw [List.map_append,← List.append_assoc]
    rfl
   ·obtain ⟨p,m,e⟩:=hZ176
    refine (zJ F G (some (.int (q.2:Int))) p m (some (.lst (au q.1))) ?_)
    rw [e]
    unfold yN
    rw [List.flatMap_append,List.flatMap_singleton,← List.append_assoc]
  ·refine AW (hZ174) fun F G B p m n e=> ?_
   subst e
   simp only [aR]
   unfold dW
   congr 2
   refine List.map_congr_left fun v hv=> ?_
   obtain ⟨t,ht,h2⟩:=mem_visits.mp hv
   unfold lW
   rw [ua hv (by rw [H.len]; exact cr (C.tr t (List.mem_of_getElem? ht)) _ h2)]
end
set_option maxHeartbeats 1000000
theorem Bb {a b:Vt}:bR (vD a) (vD b)=decide (a=b):=by
 unfold vD bR eqBL
 rw [lN]
 unfold eqBL
 rw [lN]
 unfold eqBL
 rw [Bool.and_true]
 by_cases h:a=b
 ·subst h; simp
 ·rw [decide_eq_false h]
  cases q:decide (a.1=b.1) with
  | false=>rfl
  | true=>
   rw [Bool.true_and]
   exact decide_eq_false fun z=>h (Prod.ext (of_decide_eq_true q) z)
theorem Dg {v:Vt}:aZ 19 (vD v)=true:=by
 unfold vD aZ plL plL plL
 rw [k8,k8]
 rfl
theorem Bq {t:List Vt}:plL 19 (t.map vD)=true:=lV t fun _ _=>Dg
theorem i8 {t:List Vt}{v:Vt}:kC true (vD v) (.lst (t.map vD))= .ok (.bl (!t.contains v)):=by
 unfold kC
 dsimp only
 rw [if_pos ⟨Bq,Dg⟩,if_pos rfl,List.any_map]
 congr 3
 rw [List.contains_eq_any_beq]
 congr 1
 funext x
 show bR (vD x) (vD v)=_
 rw [Bb]
 by_cases h:x=v
 ·subst h; simp
 ·rw [decide_eq_false h]
  exact (beq_eq_false_iff_ne.mpr fun z=>h z.symm).symm
section
variable{K:W.Frag}{CL:Addr}{vs:List Vt}{W:Vt→List (Vt×Int)}
theorem xp {u:Vt×Int}:aM (wD u) (.int 0)= .ok (vD u.1):=dC rfl
theorem Fe {u:Vt×Int}:aM (wD u) (.int 1)= .ok (.int u.2):=dC rfl
theorem oq {t:List Vt}{v:Vt}(hv:v∈vs)(hl:(W v).length≤100000):cn K CL [fW vs W,.lst (t.map vD),vD v]= .ok (.lst (((W v).filter fun u=> !t.contains u.1).map fun u=>vD u.1)):=by
 unfold cn
 refine (bz rfl).trans ?_
 have e0:aH iY [fW vs W,.lst (t.map vD),vD v]=[some (fW vs W),some (.lst (t.map vD)),some (vD v)]:=rfl
 rw [e0]
 unfold iW
 have hg:cu (fW vs W) (vD v)= .ok (lW W v):=sy hv
 rw [jB,dI (xs:=W v) (c:=wD) (p:=fun u=> !t.contains u.1) (g:=fun u=>vD u.1) (by simp only [aR,hg]; rfl) hl (fun u hu=>(ik _ rfl ?_ (fun _=> ?_)))]
 ·rfl
 ·show f7 (ac (ac (ab 0) (kI 0) aM) (ab 1) (kC true)) [some (wD u),some (.lst (t.map vD))]=_
  simp only [aR,xp,i8]
 ·show ac (ab 0) (kI 0) aM [some (wD u),some (.lst (t.map vD))]=_
  simp only [aR,xp]
theorem w_ {t:List Vt}(hl:vs.length≤100000)(hw:∀ v∈vs,(W v).length≤100000):fH K CL [fW vs W,.lst (t.map vD)]= .ok (.lst ((bD vs W t).map vD)):=by
 unfold fH
 refine (bz rfl).trans ?_
 have e0:aH lH [fW vs W,.lst (t.map vD)]=[some (fW vs W),some (.lst (t.map vD))]:=rfl
 rw [e0]
 unfold lG
 have hk:mQ (fW vs W)= .ok (vs.map vD):=by
  show Res.ok ((vs.map iJ).map xt)=_
  rw [List.map_map]; rfl
 rw [jB,dI (xs:=vs) (c:=vD) (p:=fun v=> !t.contains v && ((W v).all fun u=>t.contains u.1)) (g:=vD) (by show (mQ (fW vs W))=_; exact hk) hl (fun v hv=>(ik _ rfl ?_ (fun _=> ?_)))]
 ·rfl
 ·show yT (f7 (ac (ab 0) (ab 1) (kC true))) (m5 (tR (bx (pC (ab 2) (pC (ab 1) (pC (ab 0) pN))) (cn K CL)))) [some (vD v),some (.lst (t.map vD)),some (fW vs W)]=_
  have hh:=oq (K:=K) (CL:=CL) (t:=t) hv (hw v hv)
  cases q:t.contains v with
  | true=>simp only [aR,i8,q]
  | false=>
   simp only [aR,i8,q,hh,lP]
   congr 1
   rw [Bool.not_not]
   cases y:(W v).all fun u=>t.contains u.1 with
   | true=>
    rw [List.filter_eq_nil_iff.mpr fun u hu=>by rw [List.all_eq_true] at y; rw [y u hu]; exact Bool.false_ne_true]
    rfl
   | false=>
    cases z:(W v).filter fun u=> !t.contains u.1 with
    | cons a b=>rfl
    | nil=>
     rw [List.filter_eq_nil_iff] at z
     have:((W v).all fun u=>t.contains u.1)=true:=List.all_eq_true.mpr fun u hu=>by simpa using z u hu
     rw [this] at y
     cases y
 ·rfl
theorem sS {t:List Vt}:d_ 1 (.lst (t.map vD))=true:=by
 have:=kX (l:=t.map fun v=>[(v.1:Int),(v.2:Int)])
 rw [List.map_map] at this
 exact this
theorem xk (hv:vs.Nodup)(hl:vs.length≤39)(hw:∀ v∈vs,(W v).length≤100000):gj K CL [fW vs W]= .ok (.lst ((bi vs W 40 []).map vD)):=by
 have ex:∀ t:List Vt,fH K CL [fW vs W,.lst (t.map vD)]= .ok (.lst ((bD vs W t).map vD)):=fun t=>w_ (by omega) hw
 unfold gj
 refine (bz rfl).trans ?_
 have e0:aH kG [fW vs W]=[some (fW vs W),none,none]:=rfl
 rw [e0]
 unfold iX
 have h0:=ex []
 rw [List.map_nil] at h0
 simp only [aR,h0,sS]
 refine lB (fun n ρ=>∃ t,ρ=[some (fW vs W),some (.lst (t.map vD)),some (.lst ((bD vs W t).map vD))]∧Turn vs W t∧vs.length≤n+t.length∧bi vs W (n+1) t=bi vs W 40 []) (fun ρ=>ρ=[some (fW vs W),some (.lst ((bi vs W 40 []).map vD)),some (.lst [])]) 39 (by omega) (zH ([]) rfl rZ (by omega) rfl) (fun n ρ hZ177=> ?_) (fun ρ' e=> ?_)
 ·refine FX (hZ177) fun t e T hn hr=> ?_
  subst e
  by_cases h:bD vs W t=[]
  ·refine .inl ⟨?_,?_⟩
   ·rw [h]; simp only [aR,lP]; rfl
   ·rw [h]
    have e3:bi vs W (n+1) t=t:=by
     unfold bi
     rw [if_pos h]
    rw [← hr,e3]; rfl
  ·have T2:=oY hv T
   have l2:=b0 T2.nd T2.sub
   rw [List.length_append] at l2
   have lp:=List.length_pos_iff.mpr h
   cases n with
   | zero=>omega
   | succ m=>
    refine .inr (EJ ?_ m ([some (fW vs W),some (.lst ((t ++ bD vs W t).map vD)),some (.lst ((bD vs W (t ++ bD vs W t)).map vD))]) rfl ?_ (t ++ bD vs W t) rfl T2 (by rw [List.length_append]; omega) ?_)
    ·cases q:bD vs W t with
     | nil=>exact absurd q h
     | cons a b=>simp only [aR,lP]; rfl
    ·show (ay (pQ 1 0 (vc 1) (da eV (ab 2))) (aP 2 (wx 1 (bx (pC (ab 0) (pC (ab 1) pN)) (fH K CL))))) _=_
     have e1:pQ 1 0 (vc 1) (da eV (ab 2)) [some (fW vs W),some (.lst (t.map vD)),some (.lst ((bD vs W t).map vD))]= .nx [some (fW vs W),some (.lst ((t ++ bD vs W t).map vD)),some (.lst ((bD vs W t).map vD))]:=by
      rw [zb (j:=1) (n:=0) (p:=[]) (t:= .lst (t.map vD)) (g:=vc 1) (rows:=t.map vD) (l:=(bD vs W t).map vD) (wR rfl) (by simp only [aR]) rfl rfl rfl (by rw [List.length_map,List.length_map]; omega),List.map_append]
      rfl
     rw [iF,e1]
     simp only [aR,ex (t ++ bD vs W t),sS]
    ·rw [← hr]
     conv=>rhs; unfold bi
     rw [if_neg h]
 ·subst e
  simp only [aR]
theorem CH {a:Int}{ns:List Int}:je (a :: ns)=lR a ns:=by
 have h:=i7 (ns:=a :: ns) (by simp)
 exact (CG (h.2 a (List.mem_cons_self ..)) (fun e he=>h.2 e (cI he)) (List.mem_cons.mp h.1)).symm
noncomputable def dE (t:List Vt)(f:Vt→Int):D:= .dct (t.map iJ) (t.map fun v=> .int (f v))
theorem mW {ts:List Tr}{t:List Vt}(T:Turn (ak ts) W t)(hl:(ak ts).length≤39)(hw:∀ v∈ak ts,(W v).length≤1000):ci K CL [.lst (ts.map a8),fW (ak ts) W,.lst (t.map vD)]= .ok (dE t (jJ W (kE ts) t)):=by
 unfold ci
 refine (bz rfl).trans ?_
 have e0:aH cY [.lst (ts.map a8),fW (ak ts) W,.lst (t.map vD)]=[some (.lst (ts.map a8)),some (fW (ak ts) W),some (.lst (t.map vD)),none,none,none]:=rfl
 rw [e0]
 unfold cT
 simp only [aR]
 refine ki (fun pre ρ=>∃ o4 o5,ρ=[some (.lst (ts.map a8)),some (fW (ak ts) W),some (.lst (t.map vD)),some (dE pre (jJ W (kE ts) pre)),o4,o5]) ⟨none,none,rfl⟩ (fun pre v post p ρ hZ178=> ?_) (fun ρ' hZ179=> ?_)
 ·refine cps fun PP kP=> ?_
  obtain ⟨o4,o5,e⟩:=hZ178
  subst e
  have hvt:v∈t:=by rw [p]; simp
  have hv:=T.sub v hvt
  obtain ⟨tr,ht,hs⟩:=mem_visits.mp hv
  refine kP ?_; clear kP PP
  have nv:v∉pre:=fun z=>by
   have nd:=T.nd
   rw [p] at nd
   exact (List.nodup_append.mp nd).2.2 v z v (List.mem_cons_self ..) rfl
  have hpl:pre.length≤39:=by
   have:=b0 T.nd T.sub
   have:=congrArg List.length p
   rw [List.length_append] at this
   omega
  have hix:=b8 (g:=a8) ht
  have e2:aM (a8 tr) (.int 2)= .ok (.int tr.2.2):=qU
  have er:kE ts v=tr.2.2:=by unfold kE; rw [ht]
  have iv0:aM (vD v) (.int 0)= .ok (.int (v.1:Int)):=dC rfl
  have hg:cu (fW (ak ts) W) (vD v)= .ok (lW W v):=sy hv
  refine ⟨_,rfl,?_⟩
  simp only [aR,iv0,hix,e2]
  have cg:aF (sL (ac (ab 1) (ab 4) cu)) [none,some 3] (bb 0) yes (ac (ac (ab 1) (ac (ab 0) (kI 0) aM) cu) (ac (ab 0) (kI 1) aM) aO) [some (.lst (ts.map a8)),some (fW (ak ts) W),some (.lst (t.map vD)),some (dE pre (jJ W (kE ts) pre)),some (vD v),some (.int tr.2.2)]= .ok (.lst ((W v).map fun u=>D.int (jJ W (kE ts) pre u.1+u.2))):=by
   refine aT (xs:=W v) (c:=wD) (g:=fun u=>D.int (jJ W (kE ts) pre u.1+u.2)) (by simp only [aR,hg]; rfl) (Nat.le_trans (hw v hv) (by decide)) (fun u hu=>⟨_,rfl,?_⟩)
   have hp:u.1∈pre:=T.top pre v post p u hu
   have hgu:cu (dE pre (jJ W (kE ts) pre)) (vD u.1)= .ok (.int (jJ W (kE ts) pre u.1)):=BI hp
   show ac (ac (ab 1) (ac (ab 0) (kI 0) aM) cu) (ac (ab 0) (kI 1) aM) aO [some (wD u),some (dE pre (jJ W (kE ts) pre))]=_
   simp only [aR,xp,Fe,hgu,qP]
  have val:(wx 0 (c1 (ac (fu (pC (ab 5) pN)) (aF (sL (ac (ab 1) (ab 4) cu)) [none,some 3] (bb 0) yes (ac (ac (ab 1) (ac (ab 0) (kI 0) aM) cu) (ac (ab 0) (kI 1) aM) aO)) aO) nO)) [some (.lst (ts.map a8)),some (fW (ak ts) W),some (.lst (t.map vD)),some (dE pre (jJ W (kE ts) pre)),some (vD v),some (.int tr.2.2)]= .ok (.int (jJ W (kE ts) (pre ++ [v]) v)):=by
   have ea:aO (.lst [.int tr.2.2]) (.lst ((W v).map fun u=>D.int (jJ W (kE ts) pre u.1+u.2)))= .ok (.lst ((tr.2.2 :: (W v).map fun u=>jJ W (kE ts) pre u.1+u.2).map D.int)):=by
    have:=hw v hv
    rw [qQ (ce (by rw [List.length_map,List.length_singleton]; omega)),List.map_cons,List.map_map]
    rfl
   simp only [aR,cg,ea,rg,CH,qS]
   rw [j4]
   unfold Fo
   rw [if_pos rfl,er]
  refine (xl _ (uj (ks:=pre.map iJ) (l:=pre.map fun v=> .int (jJ W (kE ts) pre v)) (k:=iJ v) (kd:=[.int (v.1:Int),.int (v.2:Int)]) rfl val (by simp only [aR]; rfl) mU (by rw [List.length_map]; omega)) (some (vD v)) (some (.int tr.2.2)) ?_)
  have ep:lF (pre.map iJ) (pre.map fun v=> .int (jJ W (kE ts) pre v)) (iJ v) (.int (jJ W (kE ts) (pre ++ [v]) v))=dE (pre ++ [v]) (jJ W (kE ts) (pre ++ [v])):=by
   have:(pre.map fun v=>D.int (jJ W (kE ts) pre v))=pre.map fun x=>D.int (jJ W (kE ts) (pre ++ [v]) x):=List.map_congr_left fun x hx=>by
    rw [j4]
    unfold Fo
    rw [if_neg (fun (z:x=v)=>nv (z ▸ hx))]
   rw [this]
   exact uU (f:=fun x=>D.int (jJ W (kE ts) (pre ++ [v]) x)) nv
  rw [ep]
  rfl
 ·obtain ⟨o4,o5,e⟩:=hZ179
  subst e
  simp only [aR]
noncomputable def fE (t:List Vt)(f:Vt→Int):D:= .fdc (t.map iJ) (t.map fun v=> .int (f v))
theorem yk {t:List Vt}{f:Vt→Int}{q:Q}(hl:(az q.1).length≤1000)(h:∀ s∈az q.1,(q.2,s)∈t):gl K CL [.int (q.2:Int),aG q.1,fE t f]= .ok (aV ((az q.1).map fun s=>f (q.2,s))):=by
 unfold gl
 refine (bz rfl).trans ?_
 have e0:aH jM [.int (q.2:Int),aG q.1,fE t f]=[some (.int (q.2:Int)),some (aG q.1),some (fE t f)]:=rfl
 rw [e0]
 unfold jK
 rw [jB,aT (xs:=az q.1) (c:=fun (s:Nat)=>D.int (s:Int)) (g:=fun s=>D.int (f (q.2,s))) (by simp only [aR]; rfl) (by omega) (fun s hs=>⟨_,rfl,?_⟩)]
 ·unfold aV; rw [List.map_map]; rfl
 ·have hg:cu (fE t f) (vD (q.2,s))= .ok (.int (f (q.2,s))):=sy (h s hs)
  show ac (ab 1) (bX (pC (ab 2) (pC (ab 0) pN))) cu [some (.int (s:Int)),some (fE t f),some (.int (q.2:Int))]=_
  simp only [aR]
  exact hg
noncomputable def tP (ts:List Tr)(f:Vt→Int):Pl:=ts.zipIdx.map fun q=>(az q.1).map fun s=>f (q.2,s)
theorem tQ {ts:List Tr}{t:List Vt}{f:Vt→Int}(h5:ts.length≤5)(hl:∀ q∈ts.zipIdx,(az q.1).length≤1000)(h:∀ v∈ak ts,v∈t):eS K CL [.lst (ts.map aG),fE t f]= .ok (.lst ((tP ts f).map aV)):=by
 unfold eS
 refine (bz rfl).trans ?_
 have e0:aH gC [.lst (ts.map aG),fE t f]=[some (.lst (ts.map aG)),some (fE t f)]:=rfl
 rw [e0]
 unfold gw
 rw [jB,aT (xs:=ts.zipIdx) (c:=fun u:Q=>D.tup [.int (u.2:Int),aG u.1]) (g:=fun q:Q=>aV ((az q.1).map fun s=>f (q.2,s))) (by simp only [aR,fF]) (by rw [List.length_zipIdx]; omega) (fun q hq=>⟨_,rfl,?_⟩)]
 ·unfold tP; rw [List.map_map]; rfl
 ·show bx (pC (ab 0) (pC (ab 1) (pC (ab 2) pN))) (gl K CL) [some (.int (q.2:Int)),some (aG q.1),some (fE t f)]=_
  simp only [aR,yk (K:=K) (CL:=CL) (t:=t) (f:=f) (hl q hq) (fun s hs=>h _ (mem_visits.mpr ⟨q.1,mem_zip.mp hq,hs⟩))]
theorem Ej {l:List Vt}{v:Vt}(hl:l.length≤1000)(h:v∈l):∃ i:Nat,mJ (.lst (l.map vD)) (vD v)= .ok (.int (i:Nat)):=by
 unfold mJ
 dsimp only
 rw [if_pos ⟨Bq,Dg,ce (by rw [List.length_map]; omega)⟩]
 cases q:xj (l.map vD) (vD v) with
 | some j=>exact ⟨j,rfl⟩
 | none=>
  unfold xj at q
  rw [List.findIdx?_eq_none_iff] at q
  have:=q (vD v) (List.mem_map_of_mem h)
  rw [Bb] at this
  simp at this
theorem DT {l:List Vt}{i:Nat}:∃ r:List Vt,sx (l.map vD) (some (i:Int)) none=r.map vD:=⟨(l.drop (HT.cv (l.map vD).length 0 (some (i:Int)))).take (HT.cv (l.map vD).length (l.map vD).length none - HT.cv (l.map vD).length 0 (some (i:Int))),by unfold sx; rw [List.map_take,List.map_drop]⟩
theorem we {t:List Vt}(hl:vs.length≤39)(hw:∀ v∈vs,(W v).length≤100000)(hin:∀ v∈vs,∀ u∈W v,u.1∈vs)(he:bD vs W t=[])(hst:∃ v∈vs,v∉t):∃ r:List Vt,gk K CL [fW vs W,.lst (t.map vD)]= .ok (.lst (r.map vD)):=by
 have hk:mQ (fW vs W)= .ok (vs.map vD):=by
  show Res.ok ((vs.map iJ).map xt)=_
  rw [List.map_map]; rfl
 have cg:∀ o,aF (sD (ab 0)) [none,some 1] (bb 0) (f7 (ac (ab 0) (ab 1) (kC true))) (ab 0) [some (fW vs W),some (.lst (t.map vD)),none,o]= .ok (.lst ((vs.filter fun v=> !t.contains v).map vD)):=fun o=>dI (xs:=vs) (c:=vD) (p:=fun v=> !t.contains v) (g:=vD) (by show (mQ (fW vs W))=_; exact hk) (by omega) (fun v A=>⟨_,rfl,by
  show f7 (ac (ab 0) (ab 1) (kC true)) [some (vD v),some (.lst (t.map vD))]=_
  simp only [aR,i8],fun _=>rfl⟩)
 have key:∃ r:List Vt,fv (f6 K CL [some (fW vs W),some (.lst (t.map vD)),none,none])= .ok (.lst (r.map vD)):=by
  cases hf:vs.filter fun v=> !t.contains v with
  | nil=>
   obtain ⟨v,A,nt⟩:=hst
   rw [List.filter_eq_nil_iff] at hf
   exact absurd (by simpa using nt) (hf v A)
  | cons v0 rest=>
   have h0:v0∈vs∧v0∉t:=by
    have:v0∈vs.filter fun v=> !t.contains v:=by rw [hf]; exact List.mem_cons_self
    obtain ⟨h1,h2⟩:=List.mem_filter.mp this
    exact ⟨h1,by simpa using h2⟩
   have i0:aM (.lst ((v0 :: rest).map vD)) (.int 0)= .ok (vD v0):=b8 (g:=vD) (i:=0) rfl
   have c0:=cg none
   rw [hf] at c0
   unfold f6
   have e1:aP 2 (da bV (ac (aF (sD (ab 0)) [none,some 1] (bb 0) (f7 (ac (ab 0) (ab 1) (kC true))) (ab 0)) (kI 0) aM)) [some (fW vs W),some (.lst (t.map vD)),none,none]= .nx [some (fW vs W),some (.lst (t.map vD)),some (vD v0),none]:=by
    simp only [aR,c0,i0]
   rw [iF,e1]
   simp only [aR]
   have hI:∃ ρ',bI (f7 (ac (ab 2) (ab 3) (kC true))) (ay (jO 3 (da bV (ab 2))) (aP 2 (da bV (ac (bx (pC (ab 0) (pC (ab 1) (pC (ab 2) pN))) (cn K CL)) (kI 0) aM)))) 41 [some (fW vs W),some (.lst (t.map vD)),some (vD v0),some (.lst [])]= .nx ρ'∧(fun ρ:DS=>∃ (v:Vt) (w:List Vt),ρ=[some (fW vs W),some (.lst (t.map vD)),some (vD v),some (.lst (w.map vD))]∧w.length≤39∧v∈w) ρ':=by
    refine ig (fun (n:Nat) (ρ:DS)=>∃ (w:List Vt) (v:Vt),ρ=[some (fW vs W),some (.lst (t.map vD)),some (vD v),some (.lst (w.map vD))]∧w.Nodup∧(∀ x∈w,x∈vs)∧(v∈vs∧v∉t)∧vs.length≤n+w.length) (fun ρ:DS=>∃ (v:Vt) (w:List Vt),ρ=[some (fW vs W),some (.lst (t.map vD)),some (vD v),some (.lst (w.map vD))]∧w.length≤39∧v∈w) (fun n ρ hZ180=> ?_) 40 41 _ (by omega) (sK ([]) v0 rfl List.nodup_nil (fun x h=>by (cases h)) h0 (by omega))
    refine DE (hZ180) fun w v e nd sub A hn=> ?_
    subst e
    have lw:=b0 nd sub
    by_cases y:v∈w
    ·exact .inl (zF (by simp only [aR,i8,List.contains_iff_mem.mpr y]) v w rfl (by omega) y)
    ·have nd2:(w ++ [v]).Nodup:=List.nodup_append.mpr ⟨nd,by simp,fun a ha b hb e=>by
      rw [List.mem_singleton.mp hb] at e; subst e; exact y ha⟩
     have sub2:∀ x∈w ++ [v],x∈vs:=fun x hx=>by
      rcases List.mem_append.mp hx with z | z
      ·exact sub x z
      ·rw [List.mem_singleton.mp z]; exact A.1
     have l2:=b0 nd2 sub2
     rw [List.length_append,List.length_singleton] at l2
     have hc:w.contains v=false:=by simpa using y
     obtain ⟨u,hu,hut⟩:=tO he A.1 A.2
     cases hq:(W v).filter fun u=> !t.contains u.1 with
     | nil=>
      rw [List.filter_eq_nil_iff] at hq
      exact absurd (by simpa using hut) (hq u hu)
     | cons x xs=>
      have hx:x∈(W v).filter fun u=> !t.contains u.1:=by rw [hq]; exact List.mem_cons_self
      obtain ⟨hx1,hx2⟩:=List.mem_filter.mp hx
      have hh:=oq (K:=K) (CL:=CL) (t:=t) A.1 (hw v A.1)
      rw [hq] at hh
      have i0:aM (.lst ((x :: xs).map fun u=>vD u.1)) (.int 0)= .ok (vD x.1):=b8 (g:=fun u:Vt×Int=>vD u.1) (i:=0) rfl
      cases n with
      | zero=>omega
      | succ m=>
       refine .inr (EK (by simp only [aR,i8,hc]) m ([some (fW vs W),some (.lst (t.map vD)),some (vD x.1),some (.lst ((w ++ [v]).map vD))]) rfl ?_ (w ++ [v]) x.1 rfl nd2 sub2 ⟨hin v A.1 x hx1,by simpa using hx2⟩ (by rw [List.length_append,List.length_singleton]; omega))
       have e1:jO 3 (da bV (ab 2)) [some (fW vs W),some (.lst (t.map vD)),some (vD v),some (.lst (w.map vD))]= .nx [some (fW vs W),some (.lst (t.map vD)),some (vD v),some (.lst ((w ++ [v]).map vD))]:=by
        rw [pK (l:=w.map vD) (d:=vD v) rfl (by simp only [aR]) (by rw [List.length_map]; omega),List.map_append]
        rfl
       rw [iF,e1]
       simp only [aR,hh,i0]
   refine Hz (hI) fun ρ' e v w eρ hwl y=> ?_
   rw [e,eP]
   subst eρ
   obtain ⟨i,hi⟩:=Ej (by omega:w.length≤1000) y
   obtain ⟨r,hr⟩:=DT (l:=w) (i:=i)
   have hsl:fj (some (i:Int)) none (.lst (w.map vD))= .ok (.lst (r.map vD)):=by
    show Res.ok (D.lst (sx (w.map vD) (some (i:Int)) none))=_
    rw [hr]
   have hls:zM (.lst (r.map vD))= .ok (.lst (r.map vD)):=rfl
   refine ⟨r,?_⟩
   simp only [aR,G_,hi,hsl,hls,sS]
 obtain ⟨r,hr⟩:=key
 refine ⟨r,?_⟩
 unfold gk
 exact (bz rfl).trans hr
noncomputable def jm (rs:List Int)(g:Int)(ts:List Tr)(O:List (List Nat)):List Vt:=bi (ak ts) (jn rs g ts O) 40 []
noncomputable def sP (rs:List Int)(g:Int)(ts:List Tr)(O:List (List Nat)):Option Pl:=if (jm rs g ts O).length < (ak ts).length then none else some (tP ts (jJ (jn rs g ts O) (kE ts) (jm rs g ts O)))
theorem u7 {rs:List Int}{g:Int}{ts:List Tr}(C:Ctx rs g ts):(ak ts).length≤39:=by
 have h5:∀ q∈ts.zipIdx,(az q.1).length≤5:=fun q hq=>by
  have:=fm (C.good hq)
  have:=C.ln.few
  omega
 have:=nz (qs:=ts.zipIdx) h5
 rw [List.length_zipIdx] at this
 have e:iw ts.zipIdx=ak ts:=rfl
 rw [e] at this
 have:=C.few
 omega
theorem uZ {rs:List Int}{g:Int}{ts:List Tr}{O:List (List Nat)}(C:Ctx rs g ts):Turn (ak ts) (jn rs g ts O) (jm rs g ts O)∧bD (ak ts) (jn rs g ts O) (jm rs g ts O)=[]:=oz bW 40 [] rZ (by have:=u7 C; rw [List.length_nil]; omega)
theorem uq {t vs:List Vt}(nd:vs.Nodup)(h:¬ t.length < vs.length)(nt:t.Nodup)(sub:∀ v∈t,v∈vs):∀ v∈vs,v∈t:=fun v hv=>by
 apply Classical.byContradiction
 intro z
 have:=b0 (t:=v :: t) (vs:=vs) (List.nodup_cons.mpr ⟨z,nt⟩) fun x hx=>by
  rcases List.mem_cons.mp hx with e | e
  ·rw [e]; exact hv
  ·exact sub x e
 rw [List.length_cons] at this
 omega
theorem nI {rs:List Int}{g:Int}{ts:List Tr}{O:List (List Nat)}(C:Ctx rs g ts)(H:Ords rs.length ts O) :
  (sP rs g ts O=none∧∃ r:List Vt,bG K CL [aN CL rs g,.lst (ts.map a8),a7 O]= .ok (.tup [.str (Str.ofString "ring"),.lst (r.map vD)]))∨
  ∃ T,sP rs g ts O=some T∧bG K CL [aN CL rs g,.lst (ts.map a8),a7 O]= .ok (.tup [.str (Str.ofString "table"),.lst (T.map aV)]):=by
 have hn5:=C.ln.few
 have ht5:=C.few
 have h5:∀ q∈ts.zipIdx,(az q.1).length≤5:=fun q hq=>by
  have:=fm (C.good hq)
  omega
 have hvl:=u7 C
 have hwl:∀ v∈ak ts,(jn rs g ts O v).length≤1000:=fun v hv=>by
  obtain ⟨t,ht,hs⟩:=mem_visits.mp hv
  have hlt:=cr (C.tr t (List.mem_of_getElem? ht)) _ hs
  rw [← ua hv (by rw [H.len]; exact hlt)]
  have h1:=lO (rs:=rs) (qs:=ts.zipIdx) h5
  have h2:=pI (rs:=rs) (g:=g) (os:=O.zipIdx) fun o ho=>by
   have hz:=mem_zip.mp ho
   have hs:o.2 < rs.length:=by rw [← H.len]; exact (fG hz).1
   have:=uG H hs
   have e1:O.getD o.2 []=o.1:=by rw [List.getD_eq_getElem?_getD,hz]; rfl
   rw [e1] at this
   omega
  have h3:=qA (E:=ui rs ts.zipIdx ++ yN rs g O.zipIdx) (v:=v)
  rw [List.length_append] at h3
  rw [List.length_zipIdx] at h1 h2
  rw [H.len] at h2
  omega
 have hwl':∀ v∈ak ts,(jn rs g ts O v).length≤100000:=fun v hv=>Nat.le_trans (hwl v hv) (by decide)
 have ht:=xk (K:=K) (CL:=CL) (W:=jn rs g ts O) bW hvl hwl'
 obtain ⟨T,hf⟩:=uZ (O:=O) C
 unfold jm at T hf
 have hwo:=tV (K:=K) (CL:=CL) C H
 have fz1:zA (dW (ak ts) (jn rs g ts O))= .ok (fW (ak ts) (jn rs g ts O)):=rfl
 have hlk:xz [fW (ak ts) (jn rs g ts O)]= .ok (.int ((ak ts).length:Int)):=by
  show Res.ok (D.int (((ak ts).map iJ).length:Int))=_
  rw [List.length_map]
 have hwy:gW K CL [aN CL rs g,.lst (ts.map a8)]= .ok (.lst (ts.map aG)):=u8 C.tr (by omega) C.one C.few
 have e0:aH fO [aN CL rs g,.lst (ts.map a8),a7 O]=[some (aN CL rs g),some (.lst (ts.map a8)),some (a7 O),none,none,none]:=rfl
 unfold sP jm
 by_cases w:(bi (ak ts) (jn rs g ts O) 40 []).length < (ak ts).length
 ·have hst:∃ v∈ak ts,v∉bi (ak ts) (jn rs g ts O) 40 []:=by
   apply Classical.byContradiction
   intro z
   have:=b0 (t:=ak ts) (vs:=bi (ak ts) (jn rs g ts O) 40 []) bW fun v hv=>by
    apply Classical.byContradiction
    intro y
    exact z ⟨v,hv,y⟩
   omega
  obtain ⟨r,hr⟩:=we (K:=K) (CL:=CL) hvl hwl' (fun v hv u hu=>(yJ C H v hv u hu).2) hf hst
  refine .inl ⟨if_pos w,r,?_⟩
  have hlen':((bi (ak ts) (jn rs g ts O) 40 []).length:Int) < ((ak ts).length:Int):=by omega
  unfold bG
  refine (bz rfl).trans ?_
  rw [e0]
  unfold cx
  simp only [aR,Ga,hwy,hwo,fz1,ht,hlk,cH,hr,decide_eq_true hlen']
 ·have full:=uq bW w T.nd T.sub
  refine .inr ⟨_,if_neg w,?_⟩
  have hlen':¬ ((bi (ak ts) (jn rs g ts O) 40 []).length:Int) < ((ak ts).length:Int):=by omega
  have hle:=mW (K:=K) (CL:=CL) T hvl hwl
  have hto:=tQ (K:=K) (CL:=CL) (f:=jJ (jn rs g ts O) (kE ts) (bi (ak ts) (jn rs g ts O) 40 [])) ht5 (fun q hq=>by have:=h5 q hq; omega) full
  have fz2:zA (dE (bi (ak ts) (jn rs g ts O) 40 []) (jJ (jn rs g ts O) (kE ts) (bi (ak ts) (jn rs g ts O) 40 [])))= .ok (fE (bi (ak ts) (jn rs g ts O) 40 []) (jJ (jn rs g ts O) (kE ts) (bi (ak ts) (jn rs g ts O) 40 []))):=rfl
  unfold bG
  refine (bz rfl).trans ?_
  rw [e0]
  unfold cx
  simp only [aR,Ga,hwy,hwo,fz1,ht,hlk,cH,hle,fz2,hto,decide_eq_false hlen']
end
set_option maxHeartbeats 1000000
structure Eqv (φ:Nat→Nat)(ψ:Tr→Tr)(a b:Int)(rs rs':List Int)(g g':Int)(ts:List Tr):Prop where
 two:a=1∨a=2
 nb:0≤b
 inj:∀ s s',s < rs.length→s' < rs.length→φ s=φ s'→s=s'
 way:∀ t∈ts,az (ψ t)=(az t).map φ
 rd:∀ t∈ts,(ψ t).2.2=a * t.2.2+b
 run:∀ s,s < rs.length→rs'.getD (φ s) 0=a * rs.getD s 0
 gap:g'=a * g
noncomputable def dP (a b x:Int):Int:=a * x+b
noncomputable def mp (a b:Int)(p:Pl):Pl:=p.map (List.map (dP a b))
noncomputable def iZ (ψ:Tr→Tr)(q:Q):Q:=(ψ q.1,q.2)
section
variable{φ:Nat→Nat}{ψ:Tr→Tr}{a b:Int}{rs rs':List Int}{g g':Int}{ts:List Tr}{p:Pl}{q:Q}{s:Nat}
theorem Ds {x y:Int}(h:a=1∨a=2):dP a b x < dP a b y↔x < y:=by unfold dP; rcases h with rfl | rfl <;> omega
theorem yB {x y:Int}(h:a=1∨a=2):dP a b x=dP a b y↔x=y:=by unfold dP; rcases h with rfl | rfl <;> omega
theorem AO {x y:Int}(h:a=1∨a=2):max (dP a b x) (dP a b y)=dP a b (max x y):=by unfold dP; rcases h with rfl | rfl <;> omega
theorem uB (h:a=1∨a=2)(l:List Int):∀ x,lR (dP a b x) (l.map (dP a b))=dP a b (lR x l):=by
 induction l with
 | nil=>intro x; rfl
 | cons y l ih=>
  intro x
  show lR (max (dP a b x) (dP a b y)) (l.map (dP a b))=dP a b (lR (max x y) l)
  rw [AO h,ih]
theorem uA (l:List Int):∀ x y,max x (lR y l)=lR (max x y) l:=by
 induction l with
 | nil=>intro x y; rfl
 | cons z l ih=>
  intro x y
  show max x (lR (max y z) l)=lR (max (max x y) z) l
  rw [ih]
  congr 1
  omega
theorem iS {k:Nat}:aC (mp a b p) k=(aC p k).map (dP a b):=by
 unfold aC mp
 rw [List.getD_eq_getElem?_getD,List.getD_eq_getElem?_getD,List.getElem?_map]
 cases p[k]? <;> rfl
theorem l8:(ts.map ψ).zipIdx=ts.zipIdx.map (iZ ψ):=by
 rw [List.zipIdx_map]
 rfl
theorem xD (hq:q∈ts.zipIdx):q.1∈ts:=List.mem_of_getElem? (mem_zip.mp hq)
theorem kA (V:Eqv φ ψ a b rs rs' g g' ts)(hq:q∈ts.zipIdx):az (iZ ψ q).1=(az q.1).map φ:=V.way _ (xD hq)
theorem vF (V:Eqv φ ψ a b rs rs' g g' ts)(hq:q∈ts.zipIdx):lj (mp a b p) (iZ ψ q)=lj p q:=by
 unfold lj
 rw [kA V hq,List.length_map]
 show decide ((aC (mp a b p) q.2).length < _)=_
 rw [iS,List.length_map]
theorem oh (V:Eqv φ ψ a b rs rs' g g' ts):cy (ts.map ψ) (mp a b p)=(cy ts p).map (iZ ψ):=by
 unfold cy
 rw [l8,List.filter_map]
 congr 1
 exact List.filter_congr fun q hq=>vF V hq
theorem tW (C:Ctx rs g ts)(V:Eqv φ ψ a b rs rs' g g' ts)(hq:q∈ts.zipIdx){i:Nat}(hi:i < (az q.1).length):(az (iZ ψ q).1).getD i 0=φ ((az q.1).getD i 0)∧(az q.1).getD i 0 < rs.length:=by
 refine ⟨?_,cr (C.good hq) _ (getD_mem hi)⟩
 rw [kA V hq,List.getD_eq_getElem?_getD,List.getD_eq_getElem?_getD,List.getElem?_map,ij hi]
 rfl
theorem wk (C:Ctx rs g ts)(V:Eqv φ ψ a b rs rs' g g' ts)(I:Inv1 ts p)(hq:q∈ts.zipIdx):there rs' (mp a b p) (iZ ψ q)=dP a b (there rs p q):=by
 unfold there
 show (match (aC (mp a b p) q.2).getLast? with | none=>(ψ q.1).2.2 | some m=>m+rs'.getD ((az (iZ ψ q).1).getD ((aC (mp a b p) q.2).length - 1) 0) 0)=_
 rw [iS,List.getLast?_map,List.length_map]
 cases h:(aC p q.2).getLast? with
 | none=>exact V.rd _ (xD hq)
 | some m=>
  have hne:aC p q.2≠[]:=fun z=>by rw [z] at h; cases h
  have hl:=List.length_pos_iff.mpr hne
  have hr:=I.rows q hq
  obtain ⟨e1,e2⟩:=tW C V hq (i:=(aC p q.2).length - 1) (by omega)
  show dP a b m+rs'.getD ((az (iZ ψ q).1).getD ((aC p q.2).length - 1) 0) 0=dP a b (m+rs.getD ((az q.1).getD ((aC p q.2).length - 1) 0) 0)
  rw [e1,V.run _ e2]
  unfold dP
  rcases V.two with rfl | rfl <;> omega
theorem v6 {w:List Nat}{n:Nat}(inj:∀ s s',s < n→s' < n→φ s=φ s'→s=s')(hs:s < n):∀ {w:List Nat} {row:List Int},(∀ x∈w,x < n)→bn (w.map φ) (row.map (dP a b)) (φ s)=(bn w row s).map (dP a b):=by
 intro w
 induction w with
 | nil=>intro row _; rfl
 | cons x w ih=>
  intro row hw
  cases row with
  | nil=>rfl
  | cons y row=>
   have ih':=ih (row:=row) fun z hz=>hw z (cI hz)
   unfold bn at ih' ⊢
   rw [List.map_cons,List.map_cons,List.zip_cons_cons,List.zip_cons_cons,List.filter_cons,List.filter_cons]
   have hx:=hw x List.mem_cons_self
   by_cases e:x=s
   ·subst e
    rw [if_pos (by simp),if_pos (by simp),List.map_cons,List.map_cons,List.map_cons,ih']
   ·rw [if_neg (by simpa using fun z=>e (inj _ _ hx hs z)),if_neg (by simpa using e),ih']
theorem y7 (C:Ctx rs g ts)(V:Eqv φ ψ a b rs rs' g g' ts)(hs:s < rs.length):(jA (ts.map ψ) (mp a b p) (φ s)).map (·.1)=((jA ts p s).map (·.1)).map (dP a b):=by
 unfold jA
 rw [l8,List.flatMap_map,List.map_flatMap,List.map_flatMap,List.map_flatMap]
 have:∀ l:List Q,(∀ q∈l,q∈ts.zipIdx)→(l.flatMap fun q=>((bn (az (iZ ψ q).1) (aC (mp a b p) (iZ ψ q).2) (φ s)).map fun m=>(m,(iZ ψ q).2)).map (·.1))=l.flatMap fun q=>(((bn (az q.1) (aC p q.2) s).map fun m=>(m,q.2)).map (·.1)).map (dP a b):=by
  intro l
  induction l with
  | nil=>intro _; rfl
  | cons q l ih=>
   intro h
   have hq:=h q List.mem_cons_self
   rw [List.flatMap_cons,List.flatMap_cons,ih fun x hx=>h x (cI hx)]
   congr 1
   rw [List.map_map,List.map_map,List.map_map]
   show (bn (az (iZ ψ q).1) (aC (mp a b p) q.2) (φ s)).map id=(bn (az q.1) (aC p q.2) s).map (dP a b)
   rw [List.map_id,kA V hq,iS,v6 (w:=[]) V.inj hs (cr (C.good hq))]
 exact this _ fun _ h=>h
theorem nr (C:Ctx rs g ts)(V:Eqv φ ψ a b rs rs' g g' ts)(I:Inv1 ts p)(hq:q∈cy ts p):ku rs' g' (ts.map ψ) (mp a b p) (iZ ψ q)=dP a b (ku rs g ts p q):=by
 obtain ⟨hz,hg⟩:=List.mem_filter.mp hq
 have hl:(aC p q.2).length < (az q.1).length:=of_decide_eq_true hg
 have est:bJ (mp a b p) (iZ ψ q)=φ (bJ p q):=by
  unfold bJ
  show (az (iZ ψ q).1).getD (aC (mp a b p) q.2).length 0=_
  rw [iS,List.length_map]
  exact (tW C V hz hl).1
 have hs:bJ p q < rs.length:=(tW C V hz hl).2
 have hn:=rX C I hz
 have ap:apart rs' g' (φ (bJ p q))=a * apart rs g (bJ p q):=by
  unfold apart
  rw [V.run _ hs,V.gap]
  rcases V.two with rfl | rfl <;> omega
 have fr:∀ x,0≤x→max x (free rs g ts p (bJ p q))=lR x (((jA ts p (bJ p q)).map (·.1)).map (· + apart rs g (bJ p q))):=fun x hx=>by
  unfold free
  rw [uA,List.map_map]
  congr 1
  omega
 have fr':∀ x,0≤x→max x (free rs' g' (ts.map ψ) (mp a b p) (φ (bJ p q)))=lR x (((jA (ts.map ψ) (mp a b p) (φ (bJ p q))).map (·.1)).map (· + apart rs' g' (φ (bJ p q)))):=fun x hx=>by
  unfold free
  rw [uA,List.map_map]
  congr 1
  omega
 unfold ku
 rw [est,wk C V I hz,fr _ hn,fr' _ (by have:=V.nb; unfold dP; rcases V.two with rfl | rfl <;> omega),y7 C V hs,ap,← uB V.two,List.map_map,List.map_map,List.map_map,List.map_map]
 congr 1
 refine List.map_congr_left fun y _=> ?_
 show dP a b y.1+a * apart rs g (bJ p q)=dP a b (y.1+apart rs g (bJ p q))
 unfold dP
 rcases V.two with rfl | rfl <;> omega
theorem zL {x y i j:Int}(h:a=1∨a=2):HT.a_ [dP a b x,i] [dP a b y,j]=HT.a_ [x,i] [y,j]:=by
 rw [HT.gS (dP a b x),HT.gS x]
 by_cases e:x=y
 ·rw [if_pos e,if_pos ((yB h).mpr e)]
 ·rw [if_neg e,if_neg (fun z=>e ((yB h).mp z))]
  exact decide_eq_decide.mpr (Ds h)
theorem xX {f f':Q→List Int}:∀ (qs:List Q) (q:Q),(∀ u∈q :: qs,∀ v∈q :: qs,HT.a_ (f' (iZ ψ u)) (f' (iZ ψ v))=HT.a_ (f u) (f v))→b9 f' (iZ ψ q) (qs.map (iZ ψ))=iZ ψ (b9 f q qs):=by
 intro qs
 induction qs with
 | nil=>intro q _; rfl
 | cons u qs ih=>
  intro q h
  show b9 f' (if HT.a_ (f' (iZ ψ u)) (f' (iZ ψ q))=true then iZ ψ u else iZ ψ q) (qs.map (iZ ψ))=iZ ψ (b9 f (if HT.a_ (f u) (f q)=true then u else q) qs)
  rw [h u (cI List.mem_cons_self) q List.mem_cons_self]
  split
  ·exact ih u fun x hx y hy=>h x (cI hx) y (cI hy)
  ·exact ih q fun x hx y hy=>by
    have up:∀ z,z∈q :: qs→z∈q :: u :: qs:=fun z hz=>by
     rcases List.mem_cons.mp hz with e | e
     ·rw [e]; exact List.mem_cons_self
     ·exact cI (cI e)
    exact h x (up x hx) y (up y hy)
theorem Az (C:Ctx rs g ts)(V:Eqv φ ψ a b rs rs' g g' ts):∀ (n:Nat) (p:Pl),Inv1 ts p→run rs' g' (ts.map ψ) n (mp a b p)=mp a b (run rs g ts n p):=by
 intro n
 induction n with
 | zero=>intro p _; rfl
 | succ n ih=>
  intro p I
  cases hc:cy ts p with
  | nil=>rw [km hc,km (by rw [oh V,hc]; rfl)]
  | cons q qs=>
   have hm:b9 (f2 rs g ts p) q qs∈cy ts p:=by rw [hc]; exact ke _ _ _
   rw [ko hc,ko (q:=iZ ψ q) (qs:=qs.map (iZ ψ)) (by rw [oh V,hc]; rfl),xX (f:=f2 rs g ts p) qs q fun u hu v hv=> ?_,← ih _ (mK I hm)]
   ·congr 1
    show (mp a b p).set (b9 (f2 rs g ts p) q qs).2 (aC (mp a b p) (b9 (f2 rs g ts p) q qs).2 ++ [ku rs' g' (ts.map ψ) (mp a b p) (iZ ψ (b9 (f2 rs g ts p) q qs))])=mp a b (p.set _ _)
    rw [nr C V I hm,iS]
    unfold mp
    rw [List.map_set,List.map_append]
    rfl
   ·show HT.a_ [ku rs' g' (ts.map ψ) (mp a b p) (iZ ψ u),(u.2:Int)] [ku rs' g' (ts.map ψ) (mp a b p) (iZ ψ v),(v.2:Int)]=_
    rw [nr C V I (by rw [hc]; exact hu),nr C V I (by rw [hc]; exact hv),zL V.two]
    rfl
theorem vz (C:Ctx rs g ts)(V:Eqv φ ψ a b rs rs' g g' ts):run rs' g' (ts.map ψ) 26 (p0 (ts.map ψ))=mp a b (run rs g ts 26 (p0 ts)):=by
 rw [← Az C V 26 _ pX]
 congr 1
 unfold p0 mp
 rw [List.map_map,List.map_map]
 rfl
end
set_option maxHeartbeats 1000000
theorem qX {α β:Type}{f h:α→Option β}{l:List α}(e:∀ x∈l,f x=h x):l.filterMap f=l.filterMap h:=by
 induction l with
 | nil=>rfl
 | cons x l ih=>rw [List.filterMap_cons,List.filterMap_cons,e x List.mem_cons_self,ih fun y hy=>e y (cI hy)]
noncomputable def lK (φ:Nat→Nat)(v:Vt):Vt:=(v.1,φ v.2)
section
variable{φ:Nat→Nat}{ψ:Tr→Tr}{a b:Int}{rs rs':List Int}{g g':Int}{ts:List Tr}{O O':List (List Nat)}
theorem qw (V:Eqv φ ψ a b rs rs' g g' ts):ak (ts.map ψ)=(ak ts).map (lK φ):=by
 unfold ak
 rw [l8,List.flatMap_map,List.map_flatMap]
 have:∀ l:List Q,(∀ q∈l,q∈ts.zipIdx)→(l.flatMap fun q=>(az (iZ ψ q).1).map fun s=>((iZ ψ q).2,s))=l.flatMap fun q=>((az q.1).map fun s=>(q.2,s)).map (lK φ):=by
  intro l
  induction l with
  | nil=>intro _; rfl
  | cons q l ih=>
   intro h
   rw [List.flatMap_cons,List.flatMap_cons,ih fun x hx=>h x (cI hx)]
   congr 1
   rw [kA V (h q List.mem_cons_self),List.map_map,List.map_map]
   rfl
 exact this _ fun _ h=>h
theorem nA (C:Ctx rs g ts){v:Vt}(hv:v∈ak ts):v.2 < rs.length:=by
 obtain ⟨t,ht,hs⟩:=mem_visits.mp hv
 exact cr (C.tr t (List.mem_of_getElem? ht)) _ hs
theorem Ae (C:Ctx rs g ts)(V:Eqv φ ψ a b rs rs' g g' ts){v u:Vt}(hv:v∈ak ts)(hu:u∈ak ts)(h:lK φ v=lK φ u):v=u:=
 have h1:(lK φ v).1=(lK φ u).1:=congrArg Prod.fst h
 have h2:(lK φ v).2=(lK φ u).2:=congrArg Prod.snd h
 Prod.ext h1 (V.inj _ _ (nA C hv) (nA C hu) h2)
theorem Dy (C:Ctx rs g ts)(V:Eqv φ ψ a b rs rs' g g' ts){v:Vt}(hv:v∈ak ts):wP rs' (ts.map ψ) (lK φ v)=(wP rs ts v).map fun u=>(lK φ u.1,a * u.2):=by
 obtain ⟨t,ht,hs⟩:=mem_visits.mp hv
 have hm:=List.mem_of_getElem? ht
 have ht':(ts.map ψ)[(lK φ v).1]?=some (ψ t):=by rw [List.getElem?_map]; show (ts[v.1]?).map ψ=_; rw [ht]; rfl
 unfold wP
 rw [ht',ht]
 dsimp only
 rw [V.way t hm,← List.map_tail,List.zip_map,List.filterMap_map,List.map_filterMap]
 refine qX fun u hu=> ?_
 obtain ⟨h1,h2⟩:=dq hu
 have l1:=cr (C.tr t hm) _ h1
 have l2:=cr (C.tr t hm) _ h2
 show (if φ u.2=φ v.2 then some ((v.1,φ u.1),rs'.getD (φ u.1) 0) else none)=(if u.2=v.2 then some ((v.1,u.1),rs.getD u.1 0) else none).map fun u=>(lK φ u.1,a * u.2)
 by_cases e:u.2=v.2
 ·rw [if_pos e,if_pos (by rw [e]),V.run _ l1]
  rfl
 ·rw [if_neg e,if_neg fun z=>e (V.inj _ _ l2 (nA C hv) z)]
  rfl
theorem Dx (C:Ctx rs g ts)(V:Eqv φ ψ a b rs rs' g g' ts)(hO:∀ s,s < rs.length→O'.getD (φ s) []=O.getD s []){v:Vt}(hv:v∈ak ts):wO rs' g' O' (lK φ v)=(wO rs g O v).map fun u=>(lK φ u.1,a * u.2):=by
 have hl:=nA C hv
 unfold wO
 show (((O'.getD (φ v.2) []).zip (O'.getD (φ v.2) []).tail).filterMap fun u=>if u.2=v.1 then some ((u.1,φ v.2),rs'.getD (φ v.2) 0+g') else none)=_
 rw [hO _ hl,List.map_filterMap]
 refine qX fun u hu=> ?_
 by_cases e:u.2=v.1
 ·rw [if_pos e,if_pos e,V.run _ hl,V.gap]
  show _=some ((u.1,φ v.2),a * (rs.getD v.2 0+g))
  rw [Int.mul_add]
 ·rw [if_neg e,if_neg e]
  rfl
theorem AS (C:Ctx rs g ts)(V:Eqv φ ψ a b rs rs' g g' ts)(hO:∀ s,s < rs.length→O'.getD (φ s) []=O.getD s []){v:Vt}(hv:v∈ak ts):jn rs' g' (ts.map ψ) O' (lK φ v)=(jn rs g ts O v).map fun u=>(lK φ u.1,a * u.2):=by
 unfold jn
 rw [Dy C V hv,Dx C V hO hv,List.map_append]
theorem Av (V:Eqv φ ψ a b rs rs' g g' ts){v:Vt}(hv:v∈ak ts):kE (ts.map ψ) (lK φ v)=dP a b (kE ts v):=by
 obtain ⟨t,ht,hs⟩:=mem_visits.mp hv
 have ht':(ts.map ψ)[(lK φ v).1]?=some (ψ t):=by rw [List.getElem?_map]; show (ts[v.1]?).map ψ=_; rw [ht]; rfl
 unfold kE
 rw [ht',ht]
 exact V.rd t (List.mem_of_getElem? ht)
end
section
variable{Φ:Vt→Vt}{a b:Int}{vs:List Vt}{W W':Vt→List (Vt×Int)}{rd rd':Vt→Int}
theorem mw (inj:∀ v∈vs,∀ u∈vs,Φ v=Φ u→v=u){t:List Vt}(ht:∀ v∈t,v∈vs){x:Vt}(hx:x∈vs):(t.map Φ).contains (Φ x)=t.contains x:=by
 rw [Bool.eq_iff_iff,List.contains_iff_mem,List.contains_iff_mem,List.mem_map]
 constructor
 ·intro hZ36
  obtain ⟨y,hy,e⟩:=hZ36
  rw [← inj y (ht y hy) x hx e]; exact hy
 ·exact fun h=>⟨x,h,rfl⟩
theorem vB (inj:∀ v∈vs,∀ u∈vs,Φ v=Φ u→v=u)(hW:∀ v∈vs,W' (Φ v)=(W v).map fun u=>(Φ u.1,a * u.2))(hin:∀ v∈vs,∀ u∈W v,u.1∈vs){t:List Vt}(ht:∀ v∈t,v∈vs):bD (vs.map Φ) W' (t.map Φ)=(bD vs W t).map Φ:=by
 unfold bD
 rw [List.filter_map]
 congr 1
 refine List.filter_congr fun v hv=> ?_
 show (!(t.map Φ).contains (Φ v) && ((W' (Φ v)).all fun u=>(t.map Φ).contains u.1))=_
 rw [mw inj ht hv,hW v hv,List.all_map]
 congr 1
 rw [Bool.eq_iff_iff,List.all_eq_true,List.all_eq_true]
 constructor
 ·intro h u hu
  have:(t.map Φ).contains (Φ u.1)=true:=h u hu
  rwa [mw inj ht (hin v hv u hu)] at this
 ·intro h u hu
  show (t.map Φ).contains (Φ u.1)=true
  rw [mw inj ht (hin v hv u hu)]
  exact h u hu
theorem yD (inj:∀ v∈vs,∀ u∈vs,Φ v=Φ u→v=u)(hW:∀ v∈vs,W' (Φ v)=(W v).map fun u=>(Φ u.1,a * u.2))(hin:∀ v∈vs,∀ u∈W v,u.1∈vs):∀ (n:Nat) (t:List Vt),(∀ v∈t,v∈vs)→bi (vs.map Φ) W' n (t.map Φ)=(bi vs W n t).map Φ:=by
 intro n
 induction n with
 | zero=>intro t _; rfl
 | succ n ih=>
  intro t ht
  have ef:=vB inj hW hin ht
  unfold bi
  by_cases e:bD vs W t=[]
  ·rw [if_pos e,if_pos (by rw [ef,e]; rfl)]
  ·rw [if_neg e,if_neg (by rw [ef]; simpa using e),ef,← List.map_append]
   exact ih _ fun v hv=>by
    rcases List.mem_append.mp hv with z | z
    ·exact ht v z
    ·exact (mem_freed.mp z).1
theorem Cz (h2:a=1∨a=2)(inj:∀ v∈vs,∀ u∈vs,Φ v=Φ u→v=u)(hW:∀ v∈vs,W' (Φ v)=(W v).map fun u=>(Φ u.1,a * u.2))(hr:∀ v∈vs,rd' (Φ v)=dP a b (rd v)):∀ {t:List Vt},Turn vs W t→∀ v∈t,jJ W' rd' (t.map Φ) (Φ v)=dP a b (jJ W rd t v):=by
 intro t
 induction t using AG with
 | h0=>intro _ v m; cases m
 | h1 t x ih=>
  intro h v m
  have hx:x∈vs:=h.sub x (by simp)
  have hv:v∈vs:=h.sub v m
  rw [List.map_append,List.map_singleton,j4,j4]
  unfold Fo
  by_cases e:v=x
  ·subst e
   rw [if_pos rfl,if_pos rfl,hW v hv,hr v hv,List.map_map,← uB h2,List.map_map]
   congr 1
   refine List.map_congr_left fun u hu=> ?_
   show jJ W' rd' (t.map Φ) (Φ u.1)+a * u.2=dP a b (jJ W rd t u.1+u.2)
   rw [ih h.pre u.1 (h.top t v [] rfl u hu)]
   unfold dP
   rcases h2 with rfl | rfl <;> omega
  ·rw [if_neg e,if_neg fun z=>e (inj v hv x hx z)]
   rcases List.mem_append.mp m with z | z
   ·exact ih h.pre v z
   ·exact absurd (List.mem_singleton.mp z) e
end
section
variable{φ:Nat→Nat}{ψ:Tr→Tr}{a b:Int}{rs rs':List Int}{g g':Int}{ts:List Tr}{O O':List (List Nat)}
theorem AN (V:Eqv φ ψ a b rs rs' g g' ts){f f':Vt→Int}(h:∀ v∈ak ts,f' (lK φ v)=dP a b (f v)):tP (ts.map ψ) f'=mp a b (tP ts f):=by
 unfold tP mp
 rw [l8,List.map_map,List.map_map]
 refine List.map_congr_left fun q hq=> ?_
 show ((az (iZ ψ q).1).map fun s=>f' (q.2,s))=((az q.1).map fun s=>f (q.2,s)).map (dP a b)
 rw [kA V hq,List.map_map,List.map_map]
 exact List.map_congr_left fun s hs=>h (q.2,s) (mem_visits.mpr ⟨q.1,mem_zip.mp hq,hs⟩)
theorem vP (C:Ctx rs g ts)(V:Eqv φ ψ a b rs rs' g g' ts)(H:Ords rs.length ts O)(hO:∀ s,s < rs.length→O'.getD (φ s) []=O.getD s []):sP rs' g' (ts.map ψ) O'=(sP rs g ts O).map (mp a b):=by
 have inj:∀ v∈ak ts,∀ u∈ak ts,lK φ v=lK φ u→v=u:=fun v x u hu=>Ae C V x hu
 have hW:∀ v∈ak ts,jn rs' g' (ts.map ψ) O' (lK φ v)=(jn rs g ts O v).map fun u=>(lK φ u.1,a * u.2):=fun v x=>AS C V hO x
 have et:jm rs' g' (ts.map ψ) O'=(jm rs g ts O).map (lK φ):=by
  unfold jm
  rw [qw V]
  exact yD inj hW (fun v x u hu=>(yJ C H v x u hu).2) 40 [] fun v h=>nomatch h
 obtain ⟨T,hf⟩:=uZ (O:=O) C
 unfold sP
 rw [et,List.length_map,qw V,List.length_map]
 by_cases hl:(jm rs g ts O).length < (ak ts).length
 ·rw [if_pos hl,if_pos hl]; rfl
 ·rw [if_neg hl,if_neg hl]
  have full:=uq bW hl T.nd T.sub
  exact congrArg some (AN V fun v x=>Cz V.two inj hW (fun v x=>Av V x) T v (full v x))
end
set_option maxHeartbeats 1000000
theorem tt {α:Type}:∀ {l:List α} {i:Nat} {x:α},l[i]?=some x→(x :: l.eraseIdx i).Perm l:=by
 intro l
 induction l with
 | nil=>intro i x h; simp at h
 | cons y l ih=>
  intro i x h
  cases i with
  | zero=>cases h; exact .refl _
  | succ i=>exact (List.Perm.swap y x _).trans ((ih h).cons y)
theorem vt {α β:Type}{f:α→β}:∀ {l:List α} {i:Nat},(l.map f).eraseIdx i=(l.eraseIdx i).map f:=by
 intro l
 induction l with
 | nil=>intro i; rfl
 | cons y l ih=>
  intro i
  cases i with
  | zero=>rfl
  | succ i=>exact congrArg (f y :: ·) ih
theorem xI {α:Type}[DecidableEq α]:∀ {l t:List α},t.Nodup→(∀ x∈t,x∈l)→l.length≤t.length→l.Nodup:=by
 intro l
 induction l with
 | nil=>intro t _ _ _; exact List.nodup_nil
 | cons y l ih=>
  intro t nd sub hl
  rw [List.length_cons] at hl
  have sub2:∀ x∈t.erase y,x∈l:=fun x hx=>by
   have hm:=List.mem_of_mem_erase hx
   rcases List.mem_cons.mp (sub x hm) with e | e
   ·subst e; exact absurd hx (List.Nodup.not_mem_erase nd)
   ·exact e
  have nd2:=nd.erase y
  have len:=b0 nd2 sub2
  have len2:=List.length_erase (a:=y) (l:=t)
  split at len2
  ·refine List.nodup_cons.mpr ⟨fun hy=> ?_,ih nd2 sub2 (by omega)⟩
   have:=b0 nd fun x hx=>by
    rcases List.mem_cons.mp (sub x hx) with e | e
    ·rw [e]; exact hy
    ·exact e
   omega
  ·omega
noncomputable def nP (ts:List Tr)(s k:Nat):Bool:=decide (s∈az (ts.getD k (0,0,0)))
theorem xM {ts:List Tr}{s k:Nat}(hk:k < ts.length):nP ts s k=true↔(k,s)∈ak ts:=by
 unfold nP
 rw [decide_eq_true_iff,mem_visits]
 constructor
 ·exact fun h=>⟨_,dH hk,h⟩
 ·intro hZ37
  obtain ⟨t,ht,h⟩:=hZ37
  rw [dH (d:=(0,0,0)) hk] at ht
  cases ht
  exact h
theorem uH {n:Nat}{ts:List Tr}{O:List (List Nat)}(hl:O.length=n)(h:∀ s,s < n→∃ row:List Nat,row.Perm (List.range ts.length)∧(O.getD s []).Perm (row.filter (nP ts s))):Ords n ts O:=by
 refine ⟨hl,fun s=> ?_,fun s k hs=> ?_⟩
 ·by_cases hs:s < n
  ·obtain ⟨row,p1,p2⟩:=h s hs
   exact p2.nodup_iff.mpr ((p1.nodup_iff.mpr List.nodup_range).filter _)
  ·rw [List.getD_eq_getElem?_getD,List.getElem?_eq_none (by omega)]
   exact List.nodup_nil
 ·obtain ⟨row,p1,p2⟩:=h s hs
  rw [p2.mem_iff,List.mem_filter,p1.mem_iff,List.mem_range]
  constructor
  ·exact fun z=>(xM z.1).mp z.2
  ·intro z
   obtain ⟨t,ht,_⟩:=mem_visits.mp z
   have hk:=(fG ht).1
   exact ⟨hk,(xM hk).mpr z⟩
section
variable{K:W.Frag}{CL:Addr}{n:Nat}{ts:List Tr}
theorem Bm (hg:∀ t∈ts,Good n t)(hn:n≤1000){s k:Nat}(hk:k < ts.length):f7 (ac (ab 1) (bx (pC (ac (ab 2) (ab 0) aM) pN) (bv K CL)) (kC false)) [some (.int (k:Int)),some (.int (s:Int)),some (.lst (ts.map a8))]= .ok (nP ts s k):=by
 have hx:=dH (d:=((0,0,0):Tr)) hk
 have hix:=b8 (g:=a8) hx
 have hw:=vN (K:=K) (CL:=CL) (hg _ (List.mem_of_getElem? hx)) hn
 simp only [aR,hix,hw,HE]
 rfl
theorem yG (hg:∀ t∈ts,Good n t)(hn:n≤1000)(ht:ts.length≤5):bT K CL [.int (n:Int),.lst (ts.map a8)]= .ok (.lst ((List.range n).map fun s=> .lst (au ((List.range ts.length).filter (nP ts s))))):=by
 unfold bT
 refine (bz rfl).trans ?_
 have e0:aH d7 [.int (n:Int),.lst (ts.map a8)]=[some (.int (n:Int)),some (.lst (ts.map a8))]:=rfl
 rw [e0]
 unfold dX
 rw [jB,aT (xs:=List.range n) (c:=fun (s:Nat)=>D.int (s:Int)) (g:=fun s=> .lst (au ((List.range ts.length).filter (nP ts s)))) (by simp only [aR,gN (show n < 1000000 by omega)]) (by rw [List.length_range]; omega) (fun s hs=>⟨_,rfl,?_⟩)]
 ·rfl
 ·show aF (sR1 (pC (c1 (ab 1) bf) pN)) [none,some 0,some 1] (bb 0) (f7 (ac (ab 1) (bx (pC (ac (ab 2) (ab 0) aM) pN) (bv K CL)) (kC false))) (ab 0) [some (.int (s:Int)),some (.lst (ts.map a8))]=_
  exact dI (xs:=List.range ts.length) (c:=fun (k:Nat)=>D.int (k:Int)) (p:=nP ts s) (g:=fun (k:Nat)=>D.int (k:Int)) (by simp only [aR,cH,gN (show ts.length < 1000000 by omega)]) (by rw [List.length_range]; omega) (fun k hk=>(ik _ rfl (Bm hg hn (List.mem_range.mp hk)) (fun _=>rfl)))
theorem vv {j i:Nat}{ρ:DS}{fi:DS→Res D}{l r:List D}{m:Nat}{x:D}(h1:ρ[j]?=some (some (.lst l)))(h2:ρ[i]?=some (some (.lst r)))(hf:fi ρ= .ok (.int (m:Int)))(hx:r[m]?=some x)(hl:l.length≤1000)(hr:r.length≤1000):gG j i fi ρ= .nx ((ρ.set i (some (.lst (r.eraseIdx m)))).set j (some (.lst (l ++ [x])))):=by
 unfold gG
 rw [h1,h2]
 dsimp only
 rw [bO hf]
 unfold ng
 dsimp only
 rw [ux (fG hx).1]
 dsimp only
 rw [hx]
 exact if_pos ⟨ce (by omega),ce (by omega)⟩
noncomputable abbrev rO (ns rs:List Int)(base g:Int)(ts:List Tr)(O:List (List Nat))(o7 o8 o9:Option D):DS:=[some (.scr ns),some (.int base),some (.lst (rs.map D.int)),some (.int g),some (.lst (ts.map a8)),some (.int 0),some (a7 O),o7,o8,o9,none]
theorem yj {ns rs:List Int}{base g:Int}{O:List (List Nat)}(h0:0≤base)(h1:base < 1000){s:Nat}(hs:s < 5)(ht:ts.length≤5){L:List Nat}(hL:L.length≤5) :
  ∃ ρ',bI (f7 (ac (c1 (ab 8) bf) (kI 0) DI)) (gG 9 8 (bx (pC (ab 0) (pC (ac (ac (ac (ab 1) (kI 1) aO) (ac (kI 6) (ab 7) b_) aO) (c1 (ab 9) bf) aO) (pC (c1 (ab 8) bf) pN))) (al K CL))) 6 (rO ns rs base g ts O (some (.int (s:Int))) (some (.lst (au L))) (some (.lst [])))= .nx ρ'∧∃ row:List Nat,row.Perm L∧ρ'=rO ns rs base g ts O (some (.int (s:Int))) (some (.lst [])) (some (.lst (au row))):=by
 refine ig (fun m ρ=>∃ l r:List Nat,ρ=rO ns rs base g ts O (some (.int (s:Int))) (some (.lst (au l))) (some (.lst (au r)))∧(r ++ l).Perm L∧l.length=m) (fun ρ=>∃ row:List Nat,row.Perm L∧ρ=rO ns rs base g ts O (some (.int (s:Int))) (some (.lst [])) (some (.lst (au row)))) (fun m ρ hZ181=> ?_) L.length 6 _ (by omega) (du L ([]) rfl (.refl _) rfl)
 refine bp (hZ181) fun l r e hp hm=> ?_
 subst e
 have hlen:=hp.length_eq
 rw [List.length_append] at hlen
 have e1:bf [.lst (au l)]= .ok (.int (l.length:Int)):=cH
 have e2:bf [.lst (au r)]= .ok (.int (r.length:Int)):=cH
 cases l with
 | nil=>
  refine .inl (mM ?_ r (by rw [List.append_nil] at hp; exact hp) rfl)
  simp only [aR,e1]
  rfl
 | cons y l=>
  have hl1:(y :: l).length=l.length+1:=rfl
  cases m with
  | zero=>omega
  | succ m=>
   have db:=d9 (ns:=ns) (k:=base+1+6 * (s:Int)+(r.length:Int)) (many:=((y :: l).length:Int)) (by omega)
   obtain ⟨d,hd⟩:∃ d:Nat,drawn ns (base+1+6 * (s:Int)+(r.length:Int)) ((y :: l).length:Int)=(d:Int):=⟨(drawn ns (base+1+6 * (s:Int)+(r.length:Int)) ((y :: l).length:Int)).toNat,by omega⟩
   have hdr:=cz (K:=K) (CL:=CL) (ns:=ns) (k:=base+1+6 * (s:Int)+(r.length:Int)) (many:=((y :: l).length:Int)) (by omega) (by omega) (by omega) (by omega)
   rw [hd] at hdr db
   have hdl:d < (y :: l).length:=by omega
   have hx:=ij hdl
   have hgt:((y :: l).length:Int) > 0:=by omega
   refine .inr (EL (by simp only [aR,e1,decide_eq_true hgt]) m (rO ns rs base g ts O (some (.int (s:Int))) (some (.lst (au ((y :: l).eraseIdx d)))) (some (.lst (au (r ++ [(y :: l)[d]]))))) rfl ?_ ((y :: l).eraseIdx d) (r ++ [(y :: l)[d]]) rfl ?_ ?_)
   ·rw [vv (l:=au r) (r:=au (y :: l)) (m:=d) (x:= .int (((y :: l)[d]:Nat):Int)) rfl rfl ?_ (by unfold au; rw [List.getElem?_map,hx]; rfl) (by unfold au; rw [List.length_map]; omega) (by unfold au; rw [List.length_map]; omega)]
    ·have q1:(au (y :: l)).eraseIdx d=au ((y :: l).eraseIdx d):=by unfold au; exact vt
     have q2:au r ++ [.int (((y :: l)[d]:Nat):Int)]=au (r ++ [(y :: l)[d]]):=by unfold au; rw [List.map_append]; rfl
     rw [q1,q2]
     rfl
    ·simp (disch:=omega) only [aR,f9,e1,e2,hdr]
   ·have:=(tt hx).append_left r
    rw [List.append_assoc]
    exact this.trans hp
   ·have:=List.length_eraseIdx_of_lt hdl
    omega
theorem vY {ns rs:List Int}{base g:Int}(h0:0≤base)(h1:base < 1000)(hg:∀ t∈ts,Good rs.length t)(hn:rs.length≤5)(ht:ts.length≤5)(hm:drawn ns base 3=0):∃ O,Ords rs.length ts O∧aY K CL [.scr ns,.int base,.lst (rs.map D.int),.int g,.lst (ts.map a8)]= .ok (a7 O):=by
 have d1:=cz (K:=K) (CL:=CL) (ns:=ns) (k:=base) (many:=3) (by omega) (by omega) (by omega) (by omega)
 rw [hm] at d1
 have hu:=yG (K:=K) (CL:=CL) hg (by omega) ht
 have hlr:bf [.lst (rs.map D.int)]= .ok (.int (rs.length:Int)):=cH
 have loop:=iH (asg:=bb 7) (F:=(ay (aP 8 (da aA (bx (Gd (ac (bx (pC (c1 (ab 2) bf) (pC (ab 4) pN)) (bT K CL)) (ab 7) aM)) eQ)))
  (ay (aP 9 (da aA (fu pN)))
  (ay (bI (f7 (ac (c1 (ab 8) bf) (kI 0) DI)) (gG 9 8 (bx (pC (ab 0) (pC (ac (ac (ac (ab 1) (kI 1) aO) (ac (kI 6) (ab 7) b_) aO) (c1 (ab 9) bf) aO) (pC (c1 (ab 8) bf) pN))) (al K CL))) 6)
  (l_ 6 9))))) (st:=fun pre ρ=>∃ O o7 u o9,ρ=rO ns rs base g ts O o7 u o9∧O.length=pre.length∧∀ s,s < O.length→(O.getD s []).Perm ((List.range ts.length).filter (nP ts s))) (c:=fun (s:Nat)=>D.int (s:Int)) (List.range rs.length) [] (rO ns rs base g ts [] none none none) ⟨[],none,none,none,rfl,rfl,fun s h=>by cases h⟩ (fun pre s post ex ρ ⟨O,o7,u,o9,e,hl,hO⟩=> ?_)
 ·obtain ⟨ρ',e,O,o7,u,o9,eρ,hl,hO⟩:=loop
  rw [List.nil_append,List.length_range] at hl
  refine ⟨O,uH hl fun s hs=>⟨_,.refl _,hO s (by omega)⟩,?_⟩
  unfold aY
  refine (bz rfl).trans ?_
  have e0:aH aX [.scr ns,.int base,.lst (rs.map D.int),.int g,.lst (ts.map a8)]=[some (.scr ns),some (.int base),some (.lst (rs.map D.int)),some (.int g),some (.lst (ts.map a8)),none,none,none,none,none,none]:=rfl
  rw [e0]
  unfold bK
  simp only [aR,d1,hlr,gN (show rs.length < 1000000 by omega)]
  have er:[some (D.scr ns),some (.int base),some (.lst (rs.map D.int)),some (.int g),some (.lst (ts.map a8)),some (.int 0),some (.lst []),none,none,none,none]=rO ns rs base g ts [] none none none:=rfl
  rw [er]
  rw [e,eρ]
  rfl
 ·subst e
  rw [List.nil_append] at ex
  have hps:pre.length=s:=by
   have h2:(List.range rs.length)[pre.length]?=(pre ++ s :: post)[pre.length]?:=by rw [ex]
   rw [List.getElem?_append_right (Nat.le_refl _),Nat.sub_self] at h2
   have h3:=fG (show (List.range rs.length)[pre.length]?=some s from h2)
   obtain ⟨_,h4⟩:=h3
   rw [List.getElem_range] at h4
   exact h4
  have hsn:s < rs.length:=by
   have:=congrArg List.length ex
   rw [List.length_range,List.length_append,List.length_cons] at this
   omega
  have hix:aM (.lst ((List.range rs.length).map fun s=>D.lst (au ((List.range ts.length).filter (nP ts s))))) (.int (s:Int))= .ok (.lst (au ((List.range ts.length).filter (nP ts s)))):=b8 (g:=fun s=>D.lst (au ((List.range ts.length).filter (nP ts s)))) (by rw [List.getElem?_range hsn])
  have hll:((List.range ts.length).filter (nP ts s)).length≤5:=by
   have:=List.length_filter_le (nP ts s) (List.range ts.length)
   rw [List.length_range] at this
   omega
  obtain ⟨ρ2,ew,row,hp,e2⟩:=yj (K:=K) (CL:=CL) (ns:=ns) (rs:=rs) (base:=base) (g:=g) (O:=O) h0 h1 (s:=s) (by omega) ht hll
  subst e2
  refine ⟨_,rfl,rO ns rs base g ts (O ++ [row]) (some (.int (s:Int))) (some (.lst [])) none,?_,O ++ [row],_,_,_,rfl,by rw [List.length_append,List.length_append,hl]; rfl,fun s' hs'=> ?_⟩
  ·have hld:∀ l:List D,eQ [.lst l]= .ok (.lst l):=fun _=>rfl
   have er:(rO ns rs base g ts O o7 u o9).set 7 (some (.int (s:Int)))=rO ns rs base g ts O (some (.int (s:Int))) u o9:=rfl
   rw [er]
   have e8:aP 8 (da aA (bx (Gd (ac (bx (pC (c1 (ab 2) bf) (pC (ab 4) pN)) (bT K CL)) (ab 7) aM)) eQ)) (rO ns rs base g ts O (some (.int (s:Int))) u o9)= .nx (rO ns rs base g ts O (some (.int (s:Int))) (some (.lst (au ((List.range ts.length).filter (nP ts s))))) o9):=by
    simp only [aR,Gd,hlr,hu,hix,hld]
   have e9:∀ u,aP 9 (da aA (fu pN)) (rO ns rs base g ts O (some (.int (s:Int))) u o9)= .nx (rO ns rs base g ts O (some (.int (s:Int))) u (some (.lst []))):=fun u=>by simp only [aR]
   rw [iF,e8,eP,iF,e9,eP,iF,ew,eP]
   unfold l_
   show (if aL (O.map fun o=>D.lst (au o)).length=true then _ else _)=_
   rw [if_pos (ce (by rw [List.length_map,hl,hps]; omega))]
   have:(O.map fun o=>D.lst (au o)) ++ [.lst (au row)]=(O ++ [row]).map fun o=>D.lst (au o):=by rw [List.map_append]; rfl
   rw [this]
   rfl
  ·rw [List.length_append,List.length_singleton] at hs'
   rw [List.getD_eq_getElem?_getD]
   by_cases h:s' < O.length
   ·rw [List.getElem?_append_left h,← List.getD_eq_getElem?_getD]
    exact hO s' h
   ·have:s'=s:=by omega
    subst this
    rw [List.getElem?_append_right (by omega)]
    have:s' - O.length=0:=by omega
    rw [this]
    exact hp
theorem vZ {ns rs:List Int}{base g m:Int}(h0:0≤base)(h1:base < 1000)(hg:∀ t∈ts,Good rs.length t)(hn:rs.length≤5)(ht:ts.length≤5)(hm:drawn ns base 3=m)(hm1:m=1∨m=2):∃ O,Ords rs.length ts O∧aY K CL [.scr ns,.int base,.lst (rs.map D.int),.int g,.lst (ts.map a8)]= .ok (a7 O):=by
 have d1:=cz (K:=K) (CL:=CL) (ns:=ns) (k:=base) (many:=3) (by omega) (by omega) (by omega) (by omega)
 rw [hm] at d1
 have hlr:bf [.lst (rs.map D.int)]= .ok (.int (rs.length:Int)):=cH
 have hlt:bf [.lst (ts.map a8)]= .ok (.int (ts.length:Int)):=cH
 -- the ranks,as they are put first and as they are sorted
 let g1:Q→D:=fun q=> .tup [.int (q.1.2.2 * (m - 1)),.int (q.2:Int)]
 let A:Nat→Int:=fun k=>(ts.getD k (0,0,0)).2.2 * (m - 1)+drawn ns (base+40+(k:Int)) 9
 let L:List (List Int):=(List.range ts.length).map fun k=>[A k,(k:Int)]
 obtain ⟨l,hs,hl,hmem⟩:=oU L (by show ((List.range ts.length).map _).length≤5; rw [List.length_map,List.length_range]; exact ht) (fun t h=>by
  obtain ⟨k,_,e⟩:=List.mem_map.mp h
  rw [← e]; exact List.cons_ne_nil _ _)
 have hl5:l.length=ts.length:=by rw [hl]; show ((List.range ts.length).map _).length=_; rw [List.length_map,List.length_range]
 let row:List Nat:=l.map fun t=>(t.getD 1 0).toNat
 have htup:∀ t∈l,∃ k,k < ts.length∧t=[A k,(k:Int)]:=fun t h=>by
  obtain ⟨k,G,e⟩:=List.mem_map.mp ((hmem t).mp h)
  exact ⟨k,List.mem_range.mp G,e.symm⟩
 have M:∀ k,k∈row↔k∈List.range ts.length:=fun k=>by
  constructor
  ·intro h
   refine cps fun PP kP=> ?_
   obtain ⟨t,h1,h2⟩:=List.mem_map.mp h
   obtain ⟨k',G,e⟩:=htup t h1
   refine kP ?_; clear kP PP
   subst e
   have h2:(k':Int).toNat=k:=h2
   rw [Int.toNat_natCast] at h2
   rw [← h2]; exact List.mem_range.mpr G
  ·intro h
   exact List.mem_map.mpr ⟨[A k,(k:Int)],(hmem _).mpr (List.mem_map.mpr ⟨k,h,rfl⟩),Int.toNat_natCast k⟩
 have hnd:row.Nodup:=xI List.nodup_range (fun k G=>(M k).mpr G) (by show (l.map _).length≤_; rw [List.length_map,List.length_range,hl5]; exact Nat.le_refl _)
 have hperm:row.Perm (List.range ts.length):=(List.perm_ext_iff_of_nodup hnd List.nodup_range).mpr M
 have hrl:row.length=ts.length:=by show (l.map _).length=_; rw [List.length_map,hl5]
 refine ⟨(List.range rs.length).map fun s=>row.filter (nP ts s),uH (by rw [List.length_map,List.length_range]) fun s hs=>⟨row,hperm,?_⟩,?_⟩
 ·rw [List.getD_eq_getElem?_getD,List.getElem?_map,List.getElem?_range hs]
  exact .refl _
 unfold aY
 refine (bz rfl).trans ?_
 have e0:aH aX [.scr ns,.int base,.lst (rs.map D.int),.int g,.lst (ts.map a8)]=[some (.scr ns),some (.int base),some (.lst (rs.map D.int)),some (.int g),some (.lst (ts.map a8)),none,none,none,none,none,none]:=rfl
 rw [e0]
 unfold bK
 have hne:(m == 0)=false:=beq_eq_false_iff_ne.mpr (by omega)
 have c1':aF (sE (pC (ab 4) pN)) [none,none,some 5] (fq 0 1) yes (bX (pC (ac (ac (ab 1) (kI 2) aM) (ac (ab 2) (kI 1) jI) b_) (pC (ab 0) pN))) [some (.scr ns),some (.int base),some (.lst (rs.map D.int)),some (.int g),some (.lst (ts.map a8)),some (.int m),none,none,none,none,none]= .ok (.lst (ts.zipIdx.map g1)):=by
  refine aT (xs:=ts.zipIdx) (c:=fun q:Q=>D.tup [.int (q.2:Int),a8 q.1]) (g:=g1) (by simp only [aR,fF]) (by rw [List.length_zipIdx]; omega) (fun q hq=>⟨_,rfl,?_⟩)
  have e2:aM (a8 q.1) (.int 2)= .ok (.int q.1.2.2):=qU
  show bX (pC (ac (ac (ab 1) (kI 2) aM) (ac (ab 2) (kI 1) jI) b_) (pC (ab 0) pN)) [some (.int (q.2:Int)),some (a8 q.1),some (.int m)]=_
  simp (disch:=omega) only [aR,e2,jW]
  rfl
 have c2':aF (sR1 (pC (c1 (ab 4) bf) pN)) [none,some 0,some 10,some 1] (bb 0) yes (bX (pC (ac (ac (ac (ab 2) (ab 0) aM) (kI 0) aM) (bx (pC (ab 1) (pC (ac (ac (ab 3) (kI 40) aO) (ab 0) aO) (pC (kI 9) pN))) (al K CL)) aO) (pC (ab 0) pN))) [some (.scr ns),some (.int base),some (.lst (rs.map D.int)),some (.int g),some (.lst (ts.map a8)),some (.int m),none,none,none,none,some (.lst (ts.zipIdx.map g1))]= .ok (.lst (L.map fun t=> .tup (t.map D.int))):=by
  have eL:(L.map fun t=>D.tup (t.map D.int))=(List.range ts.length).map fun (k:Nat)=>D.tup [.int (A k),.int (k:Int)]:=by show ((List.range ts.length).map _).map _=_; rw [List.map_map]; rfl
  rw [eL]
  refine aT (xs:=List.range ts.length) (c:=fun (k:Nat)=>D.int (k:Int)) (g:=fun (k:Nat)=>D.tup [.int (A k),.int (k:Int)]) (by simp only [aR,hlt,gN (show ts.length < 1000000 by omega)]) (by rw [List.length_range]; omega) (fun k G=>⟨_,rfl,?_⟩)
  have G:=List.mem_range.mp G
  have hz:ts.zipIdx[k]?=some (ts.getD k (0,0,0),k):=by rw [List.getElem?_zipIdx,dH (d:=(0,0,0)) G]; simp
  have hix:aM (.lst (ts.zipIdx.map g1)) (.int (k:Int))= .ok (g1 (ts.getD k (0,0,0),k)):=b8 (g:=g1) hz
  have hi0:aM (g1 (ts.getD k (0,0,0),k)) (.int 0)= .ok (.int ((ts.getD k (0,0,0)).2.2 * (m - 1))):=dC rfl
  have hdr:=cz (K:=K) (CL:=CL) (ns:=ns) (k:=base+40+(k:Int)) (many:=9) (by omega) (by omega) (by omega) (by omega)
  show bX (pC (ac (ac (ac (ab 2) (ab 0) aM) (kI 0) aM) (bx (pC (ab 1) (pC (ac (ac (ab 3) (kI 40) aO) (ab 0) aO) (pC (kI 9) pN))) (al K CL)) aO) (pC (ab 0) pN)) [some (.int (k:Int)),some (.scr ns),some (.lst (ts.zipIdx.map g1)),some (.int base)]=_
  simp only [aR,hix,hi0,hdr]
  rfl
 have c3':aF (sL (c1 (ab 10) fk)) [none] (bb 0) yes (ac (ab 0) (kI 1) aM) [some (.scr ns),some (.int base),some (.lst (rs.map D.int)),some (.int g),some (.lst (ts.map a8)),some (.int m),none,none,none,none,some (.lst (L.map fun t=> .tup (t.map D.int)))]= .ok (.lst (au row)):=by
  have er:au row=l.map fun t=>D.int ((t.getD 1 0).toNat:Int):=by unfold au; show (l.map _).map _=_; rw [List.map_map]; rfl
  rw [er]
  refine aT (xs:=l) (c:=fun t=>D.tup (t.map D.int)) (g:=fun t=>D.int ((t.getD 1 0).toNat:Int)) (by simp only [aR,hs]) (by omega) (fun t h=>⟨_,rfl,?_⟩)
  obtain ⟨k,G,e⟩:=htup t h
  subst e
  show ac (ab 0) (kI 1) aM [some (.tup [.int (A k),.int (k:Int)])]=_
  have hi1:aM (.tup [.int (A k),.int (k:Int)]) (.int 1)= .ok (.int (k:Int)):=dC rfl
  simp only [aR,hi1]
  show _=Res.ok (D.int (((k:Int).toNat:Nat):Int))
  rw [Int.toNat_natCast]
 have c4':aF (sR1 (pC (c1 (ab 2) bf) pN)) [none,some 9,some 4] (bb 0) yes (aF (sL (ab 1)) [none,some 0,some 2] (bb 0) (f7 (ac (ab 1) (bx (pC (ac (ab 2) (ab 0) aM) pN) (bv K CL)) (kC false))) (ab 0)) [some (.scr ns),some (.int base),some (.lst (rs.map D.int)),some (.int g),some (.lst (ts.map a8)),some (.int m),none,none,none,some (.lst (au row)),some (.lst (L.map fun t=> .tup (t.map D.int)))]= .ok (a7 ((List.range rs.length).map fun s=>row.filter (nP ts s))):=by
  have eR:a7 ((List.range rs.length).map fun s=>row.filter (nP ts s))=D.lst ((List.range rs.length).map fun s=>D.lst (au (row.filter (nP ts s)))):=by unfold a7; rw [List.map_map]; rfl
  rw [eR]
  refine aT (xs:=List.range rs.length) (c:=fun (k:Nat)=>D.int (k:Int)) (g:=fun s=>D.lst (au (row.filter (nP ts s)))) (by simp only [aR,hlr,gN (show rs.length < 1000000 by omega)]) (by rw [List.length_range]; omega) (fun s _=>⟨_,rfl,?_⟩)
  show aF (sL (ab 1)) [none,some 0,some 2] (bb 0) (f7 (ac (ab 1) (bx (pC (ac (ab 2) (ab 0) aM) pN) (bv K CL)) (kC false))) (ab 0) [some (.int (s:Int)),some (.lst (au row)),some (.lst (ts.map a8))]=_
  exact dI (xs:=row) (c:=fun (k:Nat)=>D.int (k:Int)) (p:=nP ts s) (g:=fun (k:Nat)=>D.int (k:Int)) rfl (by omega) (fun k G=>(ik _ rfl (Bm hg (by omega) (List.mem_range.mp ((M k).mp G))) (fun _=>rfl)))
 have lf:d_ 2 (a7 ((List.range rs.length).map fun s=>row.filter (nP ts s)))=true:=oE fun _ _=>oE fun _ _=>qS
 simp only [aR,d1,hne,c1',c2',c3',c4',lf]
theorem rq {ns rs:List Int}{base g:Int}(h0:0≤base)(h1:base < 1000)(hg:∀ t∈ts,Good rs.length t)(hn:rs.length≤5)(ht:ts.length≤5):∃ O,Ords rs.length ts O∧aY K CL [.scr ns,.int base,.lst (rs.map D.int),.int g,.lst (ts.map a8)]= .ok (a7 O):=by
 have b:=d9 (ns:=ns) (k:=base) (many:=3) (by omega)
 by_cases hm:drawn ns base 3=0
 ·exact vY h0 h1 hg hn ht hm
 ·exact vZ h0 h1 hg hn ht rfl (by omega)
end
set_option maxHeartbeats 1000000
noncomputable def lE (p:Pl):D:= .lst (p.map aV)
noncomputable def both (rs:List Int)(g:Int)(ts:List Tr)(O:List (List Nat)):List Pl:=run rs g ts 26 (p0 ts) :: (sP rs g ts O).toList
section
variable{φ:Nat→Nat}{ψ:Tr→Tr}{a b:Int}{rs rs':List Int}{g g':Int}{ts:List Tr}{O O':List (List Nat)}
theorem me (C:Ctx rs g ts)(V:Eqv φ ψ a b rs rs' g g' ts)(H:Ords rs.length ts O)(hO:∀ s,s < rs.length→O'.getD (φ s) []=O.getD s []):both rs' g' (ts.map ψ) O'=(both rs g ts O).map (mp a b):=by
 unfold both
 rw [vz C V,vP C V H hO,List.map_cons]
 cases sP rs g ts O <;> rfl
theorem m6 (C:Ctx rs g ts)(V:Eqv φ ψ a b rs rs' g g' ts)(H:Ords rs.length ts O)(hO:∀ s,s < rs.length→O'.getD (φ s) []=O.getD s [])(hl:O'.length=rs.length)(hs:∀ s,s < rs.length→∃ s',s' < rs.length∧φ s'=s):Ords rs.length (ts.map ψ) O':=by
 refine ⟨hl,fun s=> ?_,fun s k h=> ?_⟩
 ·by_cases h:s < rs.length
  ·obtain ⟨s',h1,h2⟩:=hs s h
   rw [← h2,hO s' h1]
   exact H.nd s'
  ·rw [List.getD_eq_getElem?_getD,List.getElem?_eq_none (by omega)]
   exact List.nodup_nil
 ·obtain ⟨s',h1,h2⟩:=hs s h
  rw [← h2,hO s' h1,H.mem s' k h1,qw V,List.mem_map]
  constructor
  ·exact fun z=>⟨(k,s'),z,rfl⟩
  ·intro hZ38
   obtain ⟨v,hv,e⟩:=hZ38
   have e1:v.1=k:=congrArg Prod.fst e
   have e2:φ v.2=φ s':=congrArg Prod.snd e
   have e3:=V.inj _ _ (nA C hv) h1 e2
   rw [← e1,← e3]
   exact hv
theorem Fr {p:Pl}:mp 1 0 p=p:=by
 unfold mp
 have:∀ r:List Int,r.map (dP 1 0)=r:=fun r=>by
  have h:dP 1 0=id:=funext fun x=>by unfold dP; show 1 * x+0=x; omega
  rw [h,List.map_id]
 rw [show (List.map (dP 1 0))=id from funext this,List.map_id]
structure Small (p:Pl):Prop where
 len:p.length≤5
 rows:∀ r∈p,r.length≤1000
theorem zE:∀ (n:Nat) (p:Pl),Inv1 ts p→Inv1 ts (run rs g ts n p):=by
 intro n
 induction n with
 | zero=>intro p I; exact I
 | succ n ih=>
  intro p I
  cases hc:cy ts p with
  | nil=>rw [km hc]; exact I
  | cons q qs=>
   rw [ko hc]
   exact ih _ (mK I (by rw [hc]; exact ke _ _ _))
theorem nq (C:Ctx rs g ts):∀ p∈both rs g ts O,Small p:=fun p hp=>by
 have few:=C.few
 rcases List.mem_cons.mp hp with e | e
 ·have I:=zE (rs:=rs) (g:=g) 26 _ (pX (ts:=ts))
  rw [e]
  exact ⟨by rw [I.len]; exact few,C.rows I⟩
 ·unfold sP at e
  split at e
  ·cases e
  ·have e:=List.mem_singleton.mp e
   rw [e]
   unfold tP
   refine ⟨by rw [List.length_map,List.length_zipIdx]; exact few,fun r hr=> ?_⟩
   obtain ⟨q,hq,e⟩:=List.mem_map.mp hr
   rw [← e,List.length_map]
   have:=fm (C.good hq)
   have:=C.ln.few
   omega
theorem qD:(both rs g ts O).length≤2:=by
 unfold both
 cases sP rs g ts O <;> exact Nat.le_of_ble_eq_true rfl
end
section
variable{K:W.Frag}{CL:Addr}{rs:List Int}{g:Int}{ts:List Tr}{O:List (List Nat)}
theorem gR (C:Ctx rs g ts)(H:Ords rs.length ts O):bS K CL [.lst (rs.map D.int),.int g,.lst (ts.map a8),a7 O]= .ok (.lst ((both rs g ts O).map lE)):=by
 unfold bS
 refine (bz rfl).trans ?_
 have e0:aH iB [.lst (rs.map D.int),.int g,.lst (ts.map a8),a7 O]=[some (.lst (rs.map D.int)),some (.int g),some (.lst (ts.map a8)),some (a7 O),none,none,none]:=rfl
 rw [e0]
 unfold fw
 have hi:=zD (K:=K) (CL:=CL) C.ln
 have hf:=pR (K:=K) (CL:=CL) C
 rcases nI (K:=K) (CL:=CL) C H with ⟨h1,r,h2⟩ | ⟨T,h1,h2⟩
 ·have i0:aM (.tup [.str (Str.ofString "ring"),.lst (r.map vD)]) (.int 0)= .ok (.str (Str.ofString "ring")):=dC rfl
  have ne:(Str.ofString "ring" == Str.ofString "table")=false:=by decide +kernel
  simp only [aR,hi,hf,h2,i0,ne]
  unfold both
  rw [h1]
  rfl
 ·have i0:aM (.tup [.str (Str.ofString "table"),.lst (T.map aV)]) (.int 0)= .ok (.str (Str.ofString "table")):=dC rfl
  have i1:aM (.tup [.str (Str.ofString "table"),.lst (T.map aV)]) (.int 1)= .ok (.lst (T.map aV)):=dC rfl
  have ap:jO 5 (da cq (ac (ab 6) (kI 1) aM)) [some (.lst (rs.map D.int)),some (.int g),some (.lst (ts.map a8)),some (a7 O),some (aN CL rs g),some (.lst [.lst ((run rs g ts 26 (p0 ts)).map aV)]),some (.tup [.str (Str.ofString "table"),.lst (T.map aV)])]= .nx [some (.lst (rs.map D.int)),some (.int g),some (.lst (ts.map a8)),some (a7 O),some (aN CL rs g),some (.lst [.lst ((run rs g ts 26 (p0 ts)).map aV),.lst (T.map aV)]),some (.tup [.str (Str.ofString "table"),.lst (T.map aV)])]:=by
   rw [pK (l:=[.lst ((run rs g ts 26 (p0 ts)).map aV)]) (d:= .lst (T.map aV)) rfl (by simp only [aR,i1]) (by rw [List.length_singleton]; omega)]
   rfl
  simp only [aR,hi,hf,h2,i0,ap]
  unfold both
  rw [h1]
  rfl
theorem mV {L:List Pl}{a b:Int}(ha:a=1∨a=2)(hl:L.length≤2)(hs:∀ p∈L,Small p):cO K CL [.lst (L.map lE),.int a,.int b]= .ok (.lst ((L.map (mp a b)).map lE)):=by
 unfold cO
 refine (bz rfl).trans ?_
 have e0:aH fy [.lst (L.map lE),.int a,.int b]=[some (.lst (L.map lE)),some (.int a),some (.int b)]:=rfl
 rw [e0]
 unfold fx
 rw [jB,aT (xs:=L) (c:=lE) (g:=fun p=>lE (mp a b p)) rfl (by omega) (fun p hp=>⟨_,rfl,?_⟩),List.map_map]
 ·rfl
 ·have hsm:=hs p hp
  show aF (sL (ab 0)) [none,some 1,some 2] (bb 0) yes (aF (sL (ab 0)) [none,some 1,some 2] (bb 0) yes (ac (ac (ab 2) (ab 0) b_) (ab 1) aO)) [some (lE p),some (.int b),some (.int a)]=_
  have e1:lE (mp a b p)= .lst (p.map fun r=>aV (r.map (dP a b))):=by unfold lE mp; rw [List.map_map]; rfl
  rw [e1]
  refine aT (xs:=p) (c:=aV) (g:=fun r=>aV (r.map (dP a b))) rfl (by have:=hsm.len; omega) (fun r hr=>⟨_,rfl,?_⟩)
  show aF (sL (ab 0)) [none,some 1,some 2] (bb 0) yes (ac (ac (ab 2) (ab 0) b_) (ab 1) aO) [some (aV r),some (.int b),some (.int a)]=_
  have e2:aV (r.map (dP a b))= .lst (r.map fun x=> .int (dP a b x)):=by unfold aV; rw [List.map_map]; rfl
  rw [e2]
  refine aT (xs:=r) (c:=D.int) (g:=fun x=> .int (dP a b x)) rfl (by have:=hsm.rows r hr; omega) (fun x _=>⟨_,rfl,?_⟩)
  show ac (ac (ab 2) (ab 0) b_) (ab 1) aO [some (.int x),some (.int b),some (.int a)]=_
  have e3:b_ (.int a) (.int x)= .ok (.int (a * x)):=f9 (by omega) (by omega)
  simp only [aR,e3]
  rfl
end
set_option maxHeartbeats 4000000
section
variable{K:W.Frag}{CL:Addr}
noncomputable def kj (n:Nat)(t:Tr):Tr:=(n - t.1,n - t.2.1,t.2.2)
noncomputable def qk (t:Tr):Tr:=(t.1,t.2.1,2 * t.2.2)
noncomputable def x9 (t:Tr):Tr:=(t.1,t.2.1,t.2.2+10)
theorem yF {n c d:Nat}(hc:c≤n)(hd:d≤n)(h:c < d):((List.range (d - c)).map (c + ·)).map (n - 1 - ·)=((List.range (d - c)).map (n - d + ·)).reverse:=by
 rw [List.map_map]
 apply List.ext_getElem
 ·rw [List.length_reverse,List.length_map,List.length_map]
 ·intro i h1 h2
  rw [List.length_map,List.length_range] at h1
  rw [List.getElem_reverse,List.getElem_map,List.getElem_map,List.getElem_range,List.getElem_range]
  rw [List.length_map,List.length_range]
  show n - 1 - (c+i)=n - d+(d - c - 1 - i)
  omega
theorem AR {n:Nat}{t:Tr}(g:Good n t):az (kj n t)=(az t).map (n - 1 - ·):=by
 have ha:=g.a; have hb:=g.b; have hne:=g.ne
 unfold az kj
 dsimp only
 by_cases h:t.1 < t.2.1
 ·rw [if_pos h,if_neg (by omega),yF ha hb h]
  have:n - t.1 - (n - t.2.1)=t.2.1 - t.1:=by omega
  rw [this]
 ·rw [if_neg h,if_pos (by omega),List.map_reverse,yF hb ha (by omega),List.reverse_reverse]
  have:n - t.2.1 - (n - t.1)=t.1 - t.2.1:=by omega
  rw [this]
theorem yg {α:Type}{l:List α}{d:α}{s:Nat}(h:s < l.length):l.reverse.getD (l.length - 1 - s) d=l.getD s d:=by
 rw [List.getD_eq_getElem?_getD,List.getD_eq_getElem?_getD,List.getElem?_reverse (by omega)]
 congr 2
 omega
section
variable{rs:List Int}{g:Int}{ts:List Tr}
theorem Gx (C:Ctx rs g ts):Eqv (rs.length - 1 - ·) (kj rs.length) 1 0 rs rs.reverse g g ts where
 two:= .inl rfl
 nb:=Int.le_refl _
 inj:=fun s s' h1 h2 e=>by omega
 way:=fun t ht=>AR (C.tr t ht)
 rd:=fun t _=>by show t.2.2=1 * t.2.2+0; omega
 run:=fun s hs=>by rw [yg hs]; omega
 gap:=by omega
theorem Gv (C:Ctx rs g ts):Eqv id qk 2 0 rs (rs.map (2 * ·)) g (2 * g) ts where
 two:= .inr rfl
 nb:=Int.le_refl _
 inj:=fun s s' _ _ e=>e
 way:=fun t _=>by rw [List.map_id]; rfl
 rd:=fun t _=>by show 2 * t.2.2=2 * t.2.2+0; omega
 run:=fun s hs=>by
  rw [List.getD_eq_getElem?_getD,List.getD_eq_getElem?_getD,List.getElem?_map]
  show ((rs[s]?).map (2 * ·)).getD 0=2 * (rs[s]?).getD 0
  rw [ij hs]
  rfl
 gap:=rfl
theorem Gw (C:Ctx rs g ts):Eqv id x9 1 10 rs rs g g ts where
 two:= .inl rfl
 nb:=by decide
 inj:=fun s s' _ _ e=>e
 way:=fun t _=>by rw [List.map_id]; rfl
 rd:=fun t _=>by show t.2.2+10=1 * t.2.2+10; omega
 run:=fun s hs=>by show rs.getD s 0=1 * rs.getD s 0; omega
 gap:=by omega
end
theorem Df {n:Nat}{r:List Int}:aZ (n+1) (aV r)=true:=qj fun _ _=>k8
theorem lX {L:List Pl}:aZ 20 (.lst (L.map lE))=true:=qj (n:=19) fun _ _=>qj (n:=18) fun _ _=>Df (n:=17)
theorem uC {L:List Pl}:vW (.lst (L.map lE)) (.lst (L.map lE))= .ok (.bl false):=uD lX
theorem y8 {L:List Pl}:wv (.lst (L.map lE)) (.lst (L.map lE))= .ok (.bl true):=by
 unfold wv
 rw [if_pos ⟨lX,lX⟩,mB lX]
theorem yh {α:Type}{f:α→D}{l:List α}:k9 (.lst (l.map f)) (.int (-1))= .ok (.lst (l.reverse.map f)):=by
 unfold k9
 dsimp only
 rw [if_pos rfl,List.map_reverse]
theorem xw {ns:List Int}(hns:ns.length≤63):xB K CL [.scr ns]= .ok (.bl true):=by
 refine lh (vQ (K:=K) (CL:=CL) (ns:=ns) (base:=0) (by omega) (by omega)) fun y z GL el=> ?_
 have l5:=GL.few; have l1:=GL.one; have gp:=GL.gap
 -- the line
 obtain ⟨rs,hrs⟩:∃ rs,rs=y.map fun r=>1+r % 10:=⟨_,rfl⟩
 obtain ⟨g,hg⟩:∃ g,g=z / 2:=⟨_,rfl⟩
 have hlen:rs.length=y.length:=by rw [hrs,List.length_map]
 have hrun:∀ r∈rs,1≤r∧r≤10:=fun r j=>by
  rw [hrs] at j
  obtain ⟨x,_,e⟩:=List.mem_map.mp j
  omega
 have hgap:0≤g∧g≤2:=by omega
 refine cw (rY (K:=K) (CL:=CL) (ns:=ns) (base:=20) (most:=5) (n:=rs.length) (by omega) (by omega) (by omega) (by omega) (by omega) (by omega)) fun ts0 tl tg et=> ?_
 have db:=d9 (ns:=ns) (k:=20) (many:=5) (by omega)
 obtain ⟨ts,hts⟩:∃ ts,ts=ts0.map fun t:Tr=>((t.1,t.2.1,t.2.2 / 2):Tr):=⟨_,rfl⟩
 have tlen:ts.length=ts0.length:=by rw [hts,List.length_map]
 have A:∀ t∈ts,Good rs.length t∧t.2.2≤30:=fun t E=>by
  rw [hts] at E
  obtain ⟨x,m,e⟩:=List.mem_map.mp E
  have h:=tg x m
  have j:=h.r
  subst e
  exact ⟨⟨h.a,h.b,h.ne,by show 0≤x.2.2 / 2∧x.2.2 / 2≤60; omega⟩,by show x.2.2 / 2≤30; omega⟩
 have C:Ctx rs g ts:=⟨⟨by omega,by omega,fun r j=>by have:=hrun r j; omega,by omega⟩,fun t E=>(A t E).1,by omega,by omega⟩
 obtain ⟨O,H,eo⟩:=rq (K:=K) (CL:=CL) (ns:=ns) (rs:=rs) (base:=100) (g:=g) (ts:=ts) (by omega) (by omega) C.tr (by omega) (by omega)
 have F:=H.len
 -- told otherwise
 have VM:=Gx C; have VD:=Gv C; have VL:=Gw C
 have CM:Ctx rs.reverse g (ts.map (kj rs.length)):=⟨⟨by rw [List.length_reverse]; omega,by rw [List.length_reverse]; omega,fun r j=>C.ln.run r (List.mem_reverse.mp j),C.ln.gap⟩,fun t E=>by
  obtain ⟨x,m,e⟩:=List.mem_map.mp E
  have h:=C.tr x m
  have ha:=h.a; have hb:=h.b; have hn:=h.ne
  subst e
  rw [List.length_reverse]
  exact ⟨Nat.sub_le _ _,Nat.sub_le _ _,by show rs.length - x.1≠rs.length - x.2.1; omega,h.r⟩,by rw [List.length_map]; exact C.few,by rw [List.length_map]; exact C.one⟩
 have CD:Ctx (rs.map (2 * ·)) (2 * g) (ts.map qk):=⟨⟨by rw [List.length_map]; omega,by rw [List.length_map]; omega,fun r j=>by
   obtain ⟨x,m,e⟩:=List.mem_map.mp j
   have:=hrun x m
   omega,by omega⟩,fun t E=>by
  obtain ⟨x,m,e⟩:=List.mem_map.mp E
  have h:=A x m
  have j:=h.1.r
  subst e
  rw [List.length_map]
  exact ⟨h.1.a,h.1.b,h.1.ne,by show 0≤2 * x.2.2∧2 * x.2.2≤60; omega⟩,by rw [List.length_map]; exact C.few,by rw [List.length_map]; exact C.one⟩
 have CL':Ctx rs g (ts.map x9):=⟨C.ln,fun t E=>by
  obtain ⟨x,m,e⟩:=List.mem_map.mp E
  have h:=A x m
  have j:=h.1.r
  subst e
  exact ⟨h.1.a,h.1.b,h.1.ne,by show 0≤x.2.2+10∧x.2.2+10≤60; omega⟩,by rw [List.length_map]; exact C.few,by rw [List.length_map]; exact C.one⟩
 have oM:∀ s,s < rs.length→O.reverse.getD (rs.length - 1 - s) []=O.getD s []:=fun s hs=>by rw [← F]; exact yg (by omega)
 have HM:Ords rs.reverse.length (ts.map (kj rs.length)) O.reverse:=by
  rw [List.length_reverse]
  exact m6 C VM H oM (by rw [List.length_reverse]; exact F) fun s hs=>⟨rs.length - 1 - s,by omega,by omega⟩
 have HD:Ords (rs.map (2 * ·)).length (ts.map qk) O:=by
  rw [List.length_map]
  exact m6 C VD H (fun s _=>rfl) F fun s hs=>⟨s,hs,rfl⟩
 have HL:Ords rs.length (ts.map x9) O:=m6 C VL H (fun s _=>rfl) F fun s hs=>⟨s,hs,rfl⟩
 have e1:=gR (K:=K) (CL:=CL) C H
 have e2:=gR (K:=K) (CL:=CL) CM HM
 have e3:=gR (K:=K) (CL:=CL) CD HD
 have e4:=gR (K:=K) (CL:=CL) CL' HL
 rw [me C VM H oM,show (mp 1 0)=id from funext fun p=>Fr,List.map_id] at e2
 rw [me C VD H (fun s _=>rfl)] at e3
 rw [me C VL H (fun s _=>rfl)] at e4
 have f2:=mV (K:=K) (CL:=CL) (L:=both rs g ts O) (a:=2) (b:=0) (.inr rfl) qD (nq C)
 have f1:=mV (K:=K) (CL:=CL) (L:=both rs g ts O) (a:=1) (b:=10) (.inl rfl) qD (nq C)
 generalize both rs g ts O=B at e1 e2 e3 e4 f1 f2
 have i0:aM (.tup [.lst (y.map D.int),.int z]) (.int 0)= .ok (.lst (y.map D.int)):=dC rfl
 have i1:aM (.tup [.lst (y.map D.int),.int z]) (.int 1)= .ok (.int z):=dC rfl
 have fd:∀ i:Int,jX (.int i) (.int 2)= .ok (.int (i / 2)):=fun i=>pL (by decide) (by decide)
 have md:∀ i:Int,kY (.int i) (.int 10)= .ok (.int (i % 10)):=fun i=>mE (by decide)
 have m2:∀ i:Int,b_ (.int 2) (.int i)= .ok (.int (2 * i)):=fun i=>f9 (by decide) (by decide)
 have hlr:bf [.lst (rs.map D.int)]= .ok (.int (rs.length:Int)):=cH
 have t0:∀ t:Tr,aM (a8 t) (.int 0)= .ok (.int (t.1:Int)):=fun t=>ul
 have t1:∀ t:Tr,aM (a8 t) (.int 1)= .ok (.int (t.2.1:Int)):=fun t=>wY
 have t2:∀ t:Tr,aM (a8 t) (.int 2)= .ok (.int t.2.2):=fun t=>qU
 have t5:=C.few
 have tr:∀ {fe:DS→Res D} {caps:List (Option Nat)} {ρ:DS} {fi:DS→Res (List D)} {us:List Tr} {ψ:Tr→Tr},us.length≤5→fi ρ= .ok (us.map a8)→(∀ t∈us,fe ((c_ caps ρ).set 0 (some (a8 t)))= .ok (a8 (ψ t)))→aF fi caps (bb 0) yes fe ρ= .ok (.lst ((us.map ψ).map a8)):=fun hu hi h=>by
  rw [List.map_map]
  exact aT (c:=a8) hi (by omega) fun t E=>⟨_,rfl,h t E⟩
 unfold xB
 refine (bz rfl).trans ?_
 have e0:aH jL [D.scr ns]=[some (.scr ns),none,none,none,none,none,none,none,none,none,none]:=rfl
 rw [e0]
 unfold t6
 refine dS [some (.scr ns),some (.tup [.lst (y.map D.int),.int z]),none,none,none,none,none,none,none,none,none] (by simp only [aR,el]) ?_
 refine dS [some (.scr ns),some (.tup [.lst (y.map D.int),.int z]),some (.lst (rs.map D.int)),none,none,none,none,none,none,none,none] ?_ ?_
 ·have c2:aF (sL (ac (ab 1) (kI 0) aM)) [none] (bb 0) yes (ac (kI 1) (ac (ab 0) (kI 10) kY) aO) [some (.scr ns),some (.tup [.lst (y.map D.int),.int z]),none,none,none,none,none,none,none,none,none]= .ok (.lst (rs.map D.int)):=by
   rw [hrs,List.map_map]
   refine aT (xs:=y) (c:=D.int) (by simp only [aR,i0]) (by omega) (fun x _=>⟨_,rfl,?_⟩)
   show ac (kI 1) (ac (ab 0) (kI 10) kY) aO [some (.int x)]=_
   simp only [aR,md]
   rfl
  simp only [aR,c2]
 refine dS [some (.scr ns),some (.tup [.lst (y.map D.int),.int z]),some (.lst (rs.map D.int)),some (.int g),none,none,none,none,none,none,none] (by simp only [aR,i1,fd]; rw [hg]) ?_
 refine dS [some (.scr ns),some (.tup [.lst (y.map D.int),.int z]),some (.lst (rs.map D.int)),some (.int g),some (.int (rs.length:Int)),none,none,none,none,none,none] (by simp only [aR,hlr]) ?_
 refine dS [some (.scr ns),some (.tup [.lst (y.map D.int),.int z]),some (.lst (rs.map D.int)),some (.int g),some (.int (rs.length:Int)),some (.lst (ts.map a8)),none,none,none,none,none] ?_ ?_
 ·have c5:=tr (us:=ts0) (ψ:=fun t:Tr=>((t.1,t.2.1,t.2.2 / 2):Tr)) (fi:=sL (bx (pC (ab 0) (pC (kI 20) (pC (ab 4) (pC (kI 5) pN)))) (bc K CL))) (caps:=[none]) (fe:=bX (pC (ac (ab 0) (kI 0) aM) (pC (ac (ab 0) (kI 1) aM) (pC (ac (ac (ab 0) (kI 2) aM) (kI 2) jX) pN)))) (ρ:=[some (.scr ns),some (.tup [.lst (y.map D.int),.int z]),some (.lst (rs.map D.int)),some (.int g),some (.int (rs.length:Int)),none,none,none,none,none,none]) (by omega) (by simp only [aR,et]) (fun t _=>by
   show bX (pC (ac (ab 0) (kI 0) aM) (pC (ac (ab 0) (kI 1) aM) (pC (ac (ac (ab 0) (kI 2) aM) (kI 2) jX) pN))) [some (a8 t)]=_
   simp only [aR,t0,t1,t2,fd]
   rfl)
  rw [← hts] at c5
  simp only [aR,c5]
 refine dS [some (.scr ns),some (.tup [.lst (y.map D.int),.int z]),some (.lst (rs.map D.int)),some (.int g),some (.int (rs.length:Int)),some (.lst (ts.map a8)),some (a7 O),none,none,none,none] (by simp only [aR,eo]) ?_
 refine dS [some (.scr ns),some (.tup [.lst (y.map D.int),.int z]),some (.lst (rs.map D.int)),some (.int g),some (.int (rs.length:Int)),some (.lst (ts.map a8)),some (a7 O),some (.lst (B.map lE)),none,none,none] (by simp only [aR,e1]) ?_
 refine dS [some (.scr ns),some (.tup [.lst (y.map D.int),.int z]),some (.lst (rs.map D.int)),some (.int g),some (.int (rs.length:Int)),some (.lst (ts.map a8)),some (a7 O),some (.lst (B.map lE)),some (.lst ((ts.map (kj rs.length)).map a8)),none,none] ?_ ?_
 ·have c8:=tr (us:=ts) (ψ:=kj rs.length) (fi:=sL (ab 5)) (caps:=[none,some 4]) (fe:=bX (pC (ac (ab 1) (ac (ab 0) (kI 0) aM) jI) (pC (ac (ab 1) (ac (ab 0) (kI 1) aM) jI) (pC (ac (ab 0) (kI 2) aM) pN)))) (ρ:=[some (.scr ns),some (.tup [.lst (y.map D.int),.int z]),some (.lst (rs.map D.int)),some (.int g),some (.int (rs.length:Int)),some (.lst (ts.map a8)),some (a7 O),some (.lst (B.map lE)),none,none,none]) t5 rfl (fun t E=>by
   have h:=C.tr t E
   have ha:=h.a; have hb:=h.b
   show bX (pC (ac (ab 1) (ac (ab 0) (kI 0) aM) jI) (pC (ac (ab 1) (ac (ab 0) (kI 1) aM) jI) (pC (ac (ab 0) (kI 2) aM) pN))) [some (a8 t),some (.int (rs.length:Int))]=_
   have s0:(rs.length:Int) - (t.1:Int)=((rs.length - t.1:Nat):Int):=by omega
   have s1:(rs.length:Int) - (t.2.1:Int)=((rs.length - t.2.1:Nat):Int):=by omega
   simp only [aR,t0,t1,t2,s0,s1]
   rfl)
  simp only [aR,c8]
 refine dS [some (.scr ns),some (.tup [.lst (y.map D.int),.int z]),some (.lst (rs.map D.int)),some (.int g),some (.int (rs.length:Int)),some (.lst (ts.map a8)),some (a7 O),some (.lst (B.map lE)),some (.lst ((ts.map (kj rs.length)).map a8)),none,none] (by
  have r1:=yh (f:=D.int) (l:=rs)
  have r2:k9 (a7 O) (.int (-1))= .ok (a7 O.reverse):=yh
  simp only [aR,r1,r2,e2,uC]) ?_
 refine dS [some (.scr ns),some (.tup [.lst (y.map D.int),.int z]),some (.lst (rs.map D.int)),some (.int g),some (.int (rs.length:Int)),some (.lst (ts.map a8)),some (a7 O),some (.lst (B.map lE)),some (.lst ((ts.map (kj rs.length)).map a8)),some (.lst ((ts.map qk).map a8)),none] ?_ ?_
 ·have c9:=tr (us:=ts) (ψ:=qk) (fi:=sL (ab 5)) (caps:=[none]) (fe:=bX (pC (ac (ab 0) (kI 0) aM) (pC (ac (ab 0) (kI 1) aM) (pC (ac (kI 2) (ac (ab 0) (kI 2) aM) b_) pN)))) (ρ:=[some (.scr ns),some (.tup [.lst (y.map D.int),.int z]),some (.lst (rs.map D.int)),some (.int g),some (.int (rs.length:Int)),some (.lst (ts.map a8)),some (a7 O),some (.lst (B.map lE)),some (.lst ((ts.map (kj rs.length)).map a8)),none,none]) t5 rfl (fun t _=>by
   show bX (pC (ac (ab 0) (kI 0) aM) (pC (ac (ab 0) (kI 1) aM) (pC (ac (kI 2) (ac (ab 0) (kI 2) aM) b_) pN))) [some (a8 t)]=_
   simp only [aR,t0,t1,t2,m2]
   rfl)
  simp only [aR,c9]
 refine dS [some (.scr ns),some (.tup [.lst (y.map D.int),.int z]),some (.lst (rs.map D.int)),some (.int g),some (.int (rs.length:Int)),some (.lst (ts.map a8)),some (a7 O),some (.lst (B.map lE)),some (.lst ((ts.map (kj rs.length)).map a8)),some (.lst ((ts.map qk).map a8)),none] (by
  have c10:aF (sL (ab 2)) [none] (bb 0) yes (ac (kI 2) (ab 0) b_) [some (.scr ns),some (.tup [.lst (y.map D.int),.int z]),some (.lst (rs.map D.int)),some (.int g),some (.int (rs.length:Int)),some (.lst (ts.map a8)),some (a7 O),some (.lst (B.map lE)),some (.lst ((ts.map (kj rs.length)).map a8)),some (.lst ((ts.map qk).map a8)),none]= .ok (.lst ((rs.map (2 * ·)).map D.int)):=by
   have em:(rs.map (2 * ·)).map D.int=rs.map fun x=>D.int (2 * x):=by rw [List.map_map]; rfl
   rw [em]
   refine aT (xs:=rs) (c:=D.int) (g:=fun x=>D.int (2 * x)) rfl (by omega) (fun x _=>⟨_,rfl,?_⟩)
   show ac (kI 2) (ab 0) b_ [some (.int x)]=_
   simp only [aR,m2]
  simp only [aR,c10,m2,e3,f2,uC]) ?_
 refine dS [some (.scr ns),some (.tup [.lst (y.map D.int),.int z]),some (.lst (rs.map D.int)),some (.int g),some (.int (rs.length:Int)),some (.lst (ts.map a8)),some (a7 O),some (.lst (B.map lE)),some (.lst ((ts.map (kj rs.length)).map a8)),some (.lst ((ts.map qk).map a8)),some (.lst ((ts.map x9).map a8))] ?_ ?_
 ·have c11:=tr (us:=ts) (ψ:=x9) (fi:=sL (ab 5)) (caps:=[none]) (fe:=bX (pC (ac (ab 0) (kI 0) aM) (pC (ac (ab 0) (kI 1) aM) (pC (ac (ac (ab 0) (kI 2) aM) (kI 10) aO) pN)))) (ρ:=[some (.scr ns),some (.tup [.lst (y.map D.int),.int z]),some (.lst (rs.map D.int)),some (.int g),some (.int (rs.length:Int)),some (.lst (ts.map a8)),some (a7 O),some (.lst (B.map lE)),some (.lst ((ts.map (kj rs.length)).map a8)),some (.lst ((ts.map qk).map a8)),none]) t5 rfl (fun t _=>by
   show bX (pC (ac (ab 0) (kI 0) aM) (pC (ac (ab 0) (kI 1) aM) (pC (ac (ac (ab 0) (kI 2) aM) (kI 10) aO) pN))) [some (a8 t)]=_
   simp only [aR,t0,t1,t2]
   rfl)
  simp only [aR,c11]
 simp only [aR,e4,f1,y8]
end
set_option maxHeartbeats 4000000
theorem BC {l:W.OpenLaw}{w:World}{K:W.Frag}{h:Heap}{mg:Str→Option Value}{fa CL:Addr}(X:K.In h)(G:h.Ns mainGlobals mg)(hfa:mg "law" =some (.ref fa)){t0 t1 t2 t3 t4:Tok}
  (aCL:W.nsIn K mainGlobals "Line" =some (some (.ref CL)))
  (g1:FT K "check_line" hX)
  (g2:FT K "_law_drawn" hV)
  (g3:FT K "_law_line_by" dl)
  (g4:FT K "_law_trains_by" dF)
  (g5:FT K "_law_way" ff)
  (g6:FT K "_law_users" eh)
  (g7:FT K "_law_orders_by" bd)
  (g8:FT K "check_train" fX)
  (g9:FT K "way" yo)
  (g10:FT K "ways" qq)
  (g11:FT K "entries_on" hZ)
  (g12:FT K "minute_there" fg)
  (g13:FT K "soonest_enter" cK)
  (g14:FT K "next_entries" cm)
  (g15:FT K "first_come" en)
  (g16:FT K "check_orders" dm)
  (g17:FT K "waits_of" jH)
  (g18:FT K "held_by" jb)
  (g19:FT K "freed" lZ)
  (g20:FT K "in_turn" k_)
  (g21:FT K "ring_of" jc)
  (g22:FT K "least_enters" dn)
  (g23:FT K "row_of" kr)
  (g24:FT K "table_of" h_)
  (g25:FT K "least_table" fY)
  (g26:FT K "_law_both" iT)
  (g27:FT K "_law_each" fL)
  (g28:FT K "law" gr)
  (g29:FM K CL "__init__" "Line.__init__" tH)
  (g30:FM K CL "runs" "Line.runs" tI)
  (g31:FM K CL "clear" "Line.clear" qp)
  (pg:W.plainGet K CL Str.empty=true)
  (hd:W.hasDictIn K CL=true)
  (po:W.plainOver K CL=true)
  (sa:W.findIn K (.ref CL) "__setattr__" =some (some (.builtin "object.__setattr__")))
  (mk:W.makesIn K CL=true)
  (kc:W.keepIn K (.ref CL)=true)
  (nM:W.findIn K (.ref CL) "minutes" =some none)
  (nG:W.findIn K (.ref CL) "gap" =some none)
  (z0:W.nsIn K mainGlobals "len" =some none)
  (z1:W.nsIn K mainGlobals "list" =some none)
  (z2:W.nsIn K mainGlobals "range" =some none)
  (z3:W.nsIn K mainGlobals "min" =some none)
  (z4:W.nsIn K mainGlobals "max" =some none)
  (z5:W.nsIn K mainGlobals "tuple" =some none)
  (z6:W.nsIn K mainGlobals "sorted" =some none)
  (z7:W.nsIn K mainGlobals "enumerate" =some none)
  (z8:W.nsIn K mainGlobals "zip" =some none)
  (w0:W.nsIn K mainGlobals "MOST_STRETCHES" =some (some (.int 5 t0)))
  (w1:W.nsIn K mainGlobals "MOST_RUN" =some (some (.int 20 t1)))
  (w2:W.nsIn K mainGlobals "MOST_CLEAR" =some (some (.int 5 t2)))
  (w3:W.nsIn K mainGlobals "MOST_TRAINS" =some (some (.int 5 t3)))
  (w4:W.nsIn K mainGlobals "MOST_READY" =some (some (.int 60 t4))) :
  ∃ fd:FuncData,(∀ (s:Shared) (v:Value),BindsTo s fd ⟨[v],[]⟩ [("script",v)])∧∀ base:Heap,K.In base→base.Ns mainGlobals mg→FnOk l.prog w K mg base (CXF l.prog w) 7 fa fd ["script"] (uX K):=by
 obtain ⟨f,e,m,t,c,k,d⟩:=g28
 cases hfa.symm.trans (W.mg_of X G e)
 have T:Txt K mg CL:={ mgL:=W.mg_of X G aCL,cl:=⟨pg,hd,po,sa⟩,nM:=nM,nG:=nG,b_len:=W.mg_none_of X G z0,b_list:=W.mg_none_of X G z1,b_range:=W.mg_none_of X G z2,b_min:=W.mg_none_of X G z3,b_max:=W.mg_none_of X G z4,b_tuple:=W.mg_none_of X G z5,b_sorted:=W.mg_none_of X G z6,b_enumerate:=W.mg_none_of X G z7,b_zip:=W.mg_none_of X G z8,mS:=⟨_,W.mg_of X G w0⟩,mR:=⟨_,W.mg_of X G w1⟩,mC:=⟨_,W.mg_of X G w2⟩,mT:=⟨_,W.mg_of X G w3⟩,mY:=⟨_,W.mg_of X G w4⟩ }
 refine cps fun PP kP=> ?_
 obtain ⟨f29,a29,F29⟩:=g29
 obtain ⟨d29,e29⟩:=F29.mk1
 obtain ⟨f30,a30,F30⟩:=g30
 obtain ⟨d30,e30⟩:=F30.mk1
 obtain ⟨f31,a31,F31⟩:=g31
 obtain ⟨d31,e31⟩:=F31.mk1
 refine kP ?_; clear kP PP
 refine ⟨W.fnOf "law" "law" (gM gr) (cG gr) (ag gr) .none .none .none (.str m t) none (.ref c) .none,fun s v=> .of_eq rfl,fun base _ _=> ?_⟩
 have C_runs:CalM l.prog w K mg base CL "runs" 1 (gi CL):=⟨T.cl,f30,_,⟨a30,F30.fn,F30.kp⟩,zW e30 T,e30.binds fun _ _ _ _ _ _=>len1 fun _=>rfl⟩
 have C_clear:CalM l.prog w K mg base CL "clear" 1 (gU CL):=⟨T.cl,f31,_,⟨a31,F31.fn,F31.kp⟩,xL e31 T,e31.binds fun _ _ _ _ _ _=>len1 fun _=>rfl⟩
 have C_check_line:=gI (P:=l.prog) (w:=w) (base:=base) T (lg X G g1 fun _ _ _ _ _ _=>len2 fun _ _=>rfl) 
 have C_Line:CalI l.prog w K mg base "Line" CL 2 ["self","runs","clear"] (jj K CL):=⟨xA,T.mgL,f29,_,⟨mk,a29,F29.fn,kc⟩,zU e29 T C_check_line,e29.binds fun _ _ _ _ _ _=>nJ fun _ _ _=>rfl⟩
 have C__law_drawn:=aD (P:=l.prog) (w:=w) (base:=base) T (lg X G g2 fun _ _ _ _ _ _=>nJ fun _ _ _=>rfl) 
 have C__law_line_by:=eG (P:=l.prog) (w:=w) (base:=base) T (lg X G g3 fun _ _ _ _ _ _=>len2 fun _ _=>rfl) C__law_drawn
 have C__law_trains_by:=dz (P:=l.prog) (w:=w) (base:=base) T (lg X G g4 fun _ _ _ _ _ _=>CA fun _ _ _ _=>rfl) C__law_drawn
 have C__law_way:=eI (P:=l.prog) (w:=w) (base:=base) T (lg X G g5 fun _ _ _ _ _ _=>len1 fun _=>rfl) 
 have C__law_users:=gH (P:=l.prog) (w:=w) (base:=base) T (lg X G g6 fun _ _ _ _ _ _=>len2 fun _ _=>rfl) C__law_way
 have C__law_orders_by:=dw (P:=l.prog) (w:=w) (base:=base) T (lg X G g7 fun _ _ _ _ _ _=>CB fun _ _ _ _ _=>rfl) C__law_drawn C__law_users C__law_way
 have C_check_train:=fP (P:=l.prog) (w:=w) (base:=base) T (lg X G g8 fun _ _ _ _ _ _=>len2 fun _ _=>rfl)  C_runs
 have C_way:=wH (P:=l.prog) (w:=w) (base:=base) T (lg X G g9 fun _ _ _ _ _ _=>len2 fun _ _=>rfl) C_check_train
 have C_ways:=mh (P:=l.prog) (w:=w) (base:=base) T (lg X G g10 fun _ _ _ _ _ _=>len2 fun _ _=>rfl) C_way
 have C_entries_on:=gJ (P:=l.prog) (w:=w) (base:=base) T (lg X G g11 fun _ _ _ _ _ _=>nJ fun _ _ _=>rfl) 
 have C_minute_there:=eM (P:=l.prog) (w:=w) (base:=base) T (lg X G g12 fun _ _ _ _ _ _=>CB fun _ _ _ _ _=>rfl)  C_runs
 have C_soonest_enter:=dQ (P:=l.prog) (w:=w) (base:=base) T (lg X G g13 fun _ _ _ _ _ _=>CB fun _ _ _ _ _=>rfl) C_entries_on C_minute_there C_runs C_clear
 have C_next_entries:=cZ (P:=l.prog) (w:=w) (base:=base) T (lg X G g14 fun _ _ _ _ _ _=>CA fun _ _ _ _=>rfl) C_soonest_enter
 have C_first_come:=gK (P:=l.prog) (w:=w) (base:=base) T (lg X G g15 fun _ _ _ _ _ _=>len2 fun _ _=>rfl) C_next_entries C_ways
 have C_check_orders:=eJ (P:=l.prog) (w:=w) (base:=base) T (lg X G g16 fun _ _ _ _ _ _=>nJ fun _ _ _=>rfl) 
 have C_waits_of:=jt (P:=l.prog) (w:=w) (base:=base) T (lg X G g17 fun _ _ _ _ _ _=>nJ fun _ _ _=>rfl) C_check_orders C_runs C_clear
 have C_held_by:=f8 (P:=l.prog) (w:=w) (base:=base) T (lg X G g18 fun _ _ _ _ _ _=>nJ fun _ _ _=>rfl) 
 have C_freed:=lM (P:=l.prog) (w:=w) (base:=base) T (lg X G g19 fun _ _ _ _ _ _=>len2 fun _ _=>rfl) C_held_by
 have C_in_turn:=kJ (P:=l.prog) (w:=w) (base:=base) T (lg X G g20 fun _ _ _ _ _ _=>len1 fun _=>rfl) C_freed
 have C_ring_of:=kK (P:=l.prog) (w:=w) (base:=base) T (lg X G g21 fun _ _ _ _ _ _=>len2 fun _ _=>rfl) C_held_by
 have C_least_enters:=eK (P:=l.prog) (w:=w) (base:=base) T (lg X G g22 fun _ _ _ _ _ _=>nJ fun _ _ _=>rfl) 
 have C_row_of:=mf (P:=l.prog) (w:=w) (base:=base) T (lg X G g23 fun _ _ _ _ _ _=>nJ fun _ _ _=>rfl) 
 have C_table_of:=js (P:=l.prog) (w:=w) (base:=base) T (lg X G g24 fun _ _ _ _ _ _=>len2 fun _ _=>rfl) C_row_of
 have C_least_table:=fQ (P:=l.prog) (w:=w) (base:=base) T (lg X G g25 fun _ _ _ _ _ _=>nJ fun _ _ _=>rfl) C_in_turn C_least_enters C_ring_of C_table_of C_waits_of C_ways
 have C__law_both:=cN (P:=l.prog) (w:=w) (base:=base) T (lg X G g26 fun _ _ _ _ _ _=>CA fun _ _ _ _=>rfl) C_first_come C_least_table C_Line
 have C__law_each:=fD (P:=l.prog) (w:=w) (base:=base) T (lg X G g27 fun _ _ _ _ _ _=>nJ fun _ _ _=>rfl) 
 exact zV (DR (P:=l.prog) (w:=w) (base:=base) T (xa (st:=gr) k d (p_ k)) C__law_both C__law_each C__law_line_by C__law_orders_by C__law_trains_by) fun ns hns=>K11.xw hns
noncomputable def kc (x y:Str)(t:Nat)(l n f:Int)(r:Nat)(w m:Int):Obj:=⟨.type "code",none,.fields #[.str x t,.str y (t+1),.str "/claim/cut.py" (t+2),.int l 0,.int n 0,.int 0 0,.int 0 0,.int f 0,.ref r,.bool true,.int w 0,.ref (r+1),.none,.ref (r+2),.ref (r+3),.ref (r+4),.int m 0,.int l 0,.str "/claim/cut.py" (m.toNat+1)],#[]⟩
noncomputable def kn (x y:Str)(t:Nat)(l n f:Int)(r:Nat)(w m:Int):Obj:=⟨.type "code",none,.fields #[.str x t,.str y (t+1),.str "/claim/cut.py" (t+2),.int l 0,.int n 0,.int 0 0,.int 0 0,.int f 0,.ref r,.bool true,.int w 0,.ref (r+1),.none,.none,.none,.ref (r+2),.int m 0,.int l 0,.str "/claim/cut.py" (m.toNat+1)],#[]⟩
noncomputable def kd (P:Params)(l:List (Str×Nat×Value))(n:Nat):Obj:=⟨.type "dict",none,.dict (l.map fun e=>⟨PyData.keyHash P e.1,.str e.1 e.2.1,e.2.2⟩).toArray n,#[]⟩
noncomputable def Fg (t:List (Str×Nat×Value)):List (Str×Nat×Value):=("__name__",165,.str "law_haltline_k11_whole_turned_and_doubled" 481) :: ("__doc__",166,.none) :: ("__package__",167,.none) :: ("__loader__",168,.builtin "__main__.__loader__#opaque") :: ("__spec__",169,.none) :: ("__annotations__",170,.ref 6) :: ("__builtins__",171,.ref 4) :: t
noncomputable def Fh (t:List (Str×Nat×Value)):List (Str×Nat×Value):=("__file__",173,.str "/claim/cut.py" 172) :: ("__cached__",174,.none) :: ("HaltError",206,.ref 24) :: ("BadLine",222,.ref 37) :: ("BadTrains",238,.ref 49) :: ("BadOrders",254,.ref 61) :: ("MOST_STRETCHES",258,.int 5 257) :: t
noncomputable def Fi (t:List (Str×Nat×Value)):List (Str×Nat×Value):=("MOST_RUN",260,.int 20 259) :: ("MOST_CLEAR",262,.int 5 261) :: ("MOST_TRAINS",264,.int 5 263) :: ("MOST_READY",266,.int 60 265) :: ("Line",311,.ref 94) :: ("check_line",320,.ref 105) :: ("way",330,.ref 112) :: t
noncomputable def Fj (t:List (Str×Nat×Value)):List (Str×Nat×Value):=("check_train",341,.ref 119) :: ("ways",347,.ref 124) :: ("waits_of",367,.ref 131) :: ("check_orders",373,.ref 136) :: ("in_turn",382,.ref 143) :: ("freed",388,.ref 148) :: ("held_by",394,.ref 153) :: t
noncomputable def Fk (t:List (Str×Nat×Value)):List (Str×Nat×Value):=("ring_of",400,.ref 158) :: ("least_table",414,.ref 165) :: ("least_enters",420,.ref 170) :: ("table_of",426,.ref 175) :: ("row_of",432,.ref 180) :: ("entries_on",448,.ref 187) :: ("first_come",456,.ref 192) :: t
noncomputable def Fl (t:List (Str×Nat×Value)):List (Str×Nat×Value):=("next_entries",462,.ref 197) :: ("soonest_enter",468,.ref 202) :: ("minute_there",480,.ref 209) :: ("_law_drawn",493,.ref 216) :: ("_law_line_by",499,.ref 221) :: ("_law_trains_by",513,.ref 228) :: ("_law_way",519,.ref 233) :: t
noncomputable def Fm (t:List (Str×Nat×Value)):List (Str×Nat×Value):=("_law_users",525,.ref 238) :: ("_law_orders_by",531,.ref 243) :: ("_law_both",544,.ref 250) :: ("_law_each",550,.ref 255) :: ("law",556,.ref 260) :: t
noncomputable def Be (P:Params) :Obj×Obj×Obj×Obj×Obj×Obj×Obj×Obj:=(kd P (Fg (Fh (Fi (Fj (Fk (Fl (Fm []))))))) 47,kd P (("__module__",196,.str "haltline.errors" 187) :: ("__firstlineno__",200,.int 2 199) :: ("__static_attributes__",201,.ref 22) :: ("__weakref__",203,.ref 25) :: ("__doc__",204,.none) :: []) 3,⟨.type "type",none,.cls ⟨"HaltError",[.type "ValueError"],[.ref 24,.type "ValueError",.type "Exception",.type "BaseException",.type "object"],23,"HaltError",true,[],[.ref 37,.ref 49,.ref 61],false,none,false⟩,#[some (.ref 15),none,some (.str "HaltError" 189),some (.str "HaltError" 197),some (.builtin "ValueError.__new__"),some (.bool true)]⟩,kd P (("__module__",214,.str "haltline.errors" 187) :: ("__firstlineno__",218,.int 4 217) :: ("__static_attributes__",219,.ref 35) :: ("__doc__",220,.none) :: []) 2,⟨.type "type",none,.cls ⟨"BadLine",[.ref 24],[.ref 37,.ref 24,.type "ValueError",.type "Exception",.type "BaseException",.type "object"],36,"BadLine",true,[],[],false,none,false⟩,#[some (.ref 28),none,some (.str "BadLine" 207),some (.str "BadLine" 215),some (.builtin "ValueError.__new__"),some (.bool true)]⟩,kd P (("__module__",230,.str "haltline.errors" 187) :: ("__firstlineno__",234,.int 6 233) :: ("__static_attributes__",235,.ref 47) :: ("__doc__",236,.none) :: []) 2,⟨.type "type",none,.cls ⟨"BadTrains",[.ref 24],[.ref 49,.ref 24,.type "ValueError",.type "Exception",.type "BaseException",.type "object"],48,"BadTrains",true,[],[],false,none,false⟩,#[some (.ref 40),none,some (.str "BadTrains" 223),some (.str "BadTrains" 231),some (.builtin "ValueError.__new__"),some (.bool true)]⟩,kd P (("__module__",246,.str "haltline.errors" 187) :: ("__firstlineno__",250,.int 8 249) :: ("__static_attributes__",251,.ref 59) :: ("__doc__",252,.none) :: []) 2)
noncomputable def Bf (P:Params) :Obj×Obj×Obj×Obj×Obj×Obj×Obj×Obj:=(⟨.type "type",none,.cls ⟨"BadOrders",[.ref 24],[.ref 61,.ref 24,.type "ValueError",.type "Exception",.type "BaseException",.type "object"],60,"BadOrders",true,[],[],false,none,false⟩,#[some (.ref 52),none,some (.str "BadOrders" 239),some (.str "BadOrders" 247),some (.builtin "ValueError.__new__"),some (.bool true)]⟩,kc "__init__" "Line.__init__" 279 18 3 3 71 181 285,kf "__init__" "Line.__init__" (i5 (top 11) 0) "haltline.line" 255 76,kc "runs" "Line.runs" 288 23 1 3 78 181 292,kf "runs" "Line.runs" (i5 (top 11) 1) "haltline.line" 255 83,kc "clear" "Line.clear" 295 26 1 3 85 181 299,kf "clear" "Line.clear" (i5 (top 11) 2) "haltline.line" 255 90,kd P (("__module__",274,.str "haltline.line" 255) :: ("__firstlineno__",278,.int 16 277) :: ("__init__",287,.ref 77) :: ("runs",294,.ref 84) :: ("clear",301,.ref 91) :: ("__static_attributes__",304,.ref 92) :: ("__dict__",306,.ref 95) :: ("__weakref__",308,.ref 96) :: ("__doc__",309,.none) :: []) 4)
noncomputable def Bg (P:Params) :Obj×Obj×Obj×Obj×Obj×Obj×Obj×Obj:=(⟨.type "type",none,.cls ⟨"Line",[.type "object"],[.ref 94,.type "object"],93,"Line",true,[],[],false,none,false⟩,#[none,none,some (.str "Line" 267),some (.str "Line" 275),some (.builtin "object.__new__"),some (.bool true)]⟩,kc "check_line" "check_line" 312 28 2 3 99 181 318,kf "check_line" "check_line" (top 12) "haltline.line" 255 104,kc "way" "way" 321 36 2 3 106 181 328,kf "way" "way" (top 13) "haltline.line" 255 111,kc "check_train" "check_train" 331 43 2 3 113 181 339,kf "check_train" "check_train" (top 14) "haltline.line" 255 118,kn "ways" "ways" 342 55 2 3 120 181 345)
noncomputable def Bh (P:Params) :Obj×Obj×Obj×Obj×Obj×Obj×Obj×Obj:=(kf "ways" "ways" (top 15) "haltline.line" 255 123,kc "waits_of" "waits_of" 350 60 3 3 125 181 365,kf "waits_of" "waits_of" (top 17) "haltline.waits" 348 130,kn "check_orders" "check_orders" 368 74 3 3 132 181 371,kf "check_orders" "check_orders" (top 18) "haltline.waits" 348 135,kc "in_turn" "in_turn" 374 81 1 3 137 181 380,kf "in_turn" "in_turn" (top 19) "haltline.waits" 348 142,kn "freed" "freed" 383 88 2 3 144 181 386)
noncomputable def Bi (P:Params) :Obj×Obj×Obj×Obj×Obj×Obj×Obj×Obj:=(kf "freed" "freed" (top 20) "haltline.waits" 348 147,kn "held_by" "held_by" 389 90 3 3 149 181 392,kf "held_by" "held_by" (top 21) "haltline.waits" 348 152,kn "ring_of" "ring_of" 395 92 2 3 154 181 398,kf "ring_of" "ring_of" (top 22) "haltline.waits" 348 157,kc "least_table" "least_table" 403 100 3 3 159 181 412,kf "least_table" "least_table" (top 24) "haltline.times" 401 164,kn "least_enters" "least_enters" 415 107 3 3 166 181 418)
noncomputable def Bj (P:Params) :Obj×Obj×Obj×Obj×Obj×Obj×Obj×Obj:=(kf "least_enters" "least_enters" (top 25) "haltline.times" 401 169,kn "table_of" "table_of" 421 113 2 3 171 181 424,kf "table_of" "table_of" (top 26) "haltline.times" 401 174,kn "row_of" "row_of" 427 115 3 3 176 181 430,kf "row_of" "row_of" (top 27) "haltline.times" 401 179,kc "entries_on" "entries_on" 435 118 3 3 181 181 446,kf "entries_on" "entries_on" (top 29) "haltline.tables" 433 186,kn "first_come" "first_come" 451 126 2 3 188 181 454)
noncomputable def kk6 (P:Params) :Obj×Obj×Obj×Obj×Obj×Obj×Obj×Obj:=(kf "first_come" "first_come" (top 31) "haltline.plans" 449 191,kn "next_entries" "next_entries" 457 135 4 3 193 181 460,kf "next_entries" "next_entries" (top 32) "haltline.plans" 449 196,kn "soonest_enter" "soonest_enter" 463 138 5 3 198 181 466,kf "soonest_enter" "soonest_enter" (top 33) "haltline.plans" 449 201,kc "minute_there" "minute_there" 469 143 5 3 203 181 478,kf "minute_there" "minute_there" (top 34) "haltline.plans" 449 208,kc "_law_drawn" "_law_drawn" 483 149 3 3 210 181 491)
noncomputable def Bk (P:Params) :Obj×Obj×Obj×Obj×Obj×Obj×Obj×Obj:=(kf "_law_drawn" "_law_drawn" (top 36) "law_haltline_k11_whole_turned_and_doubled" 481 215,kn "_law_line_by" "_law_line_by" 494 156 2 3 217 181 497,kf "_law_line_by" "_law_line_by" (top 37) "law_haltline_k11_whole_turned_and_doubled" 481 220,kc "_law_trains_by" "_law_trains_by" 500 160 4 3 222 181 511,kf "_law_trains_by" "_law_trains_by" (top 38) "law_haltline_k11_whole_turned_and_doubled" 481 227,kn "_law_way" "_law_way" 514 170 1 3 229 181 517,kf "_law_way" "_law_way" (top 39) "law_haltline_k11_whole_turned_and_doubled" 481 232,kn "_law_users" "_law_users" 520 174 2 3 234 181 523)
noncomputable def Bl (P:Params) :Obj×Obj×Obj×Obj×Obj×Obj×Obj×Obj:=(kf "_law_users" "_law_users" (top 40) "law_haltline_k11_whole_turned_and_doubled" 481 237,kn "_law_orders_by" "_law_orders_by" 526 176 5 3 239 181 529,kf "_law_orders_by" "_law_orders_by" (top 41) "law_haltline_k11_whole_turned_and_doubled" 481 242,kc "_law_both" "_law_both" 532 191 4 3 244 181 542,kf "_law_both" "_law_both" (top 42) "law_haltline_k11_whole_turned_and_doubled" 481 249,kn "_law_each" "_law_each" 545 198 3 3 251 181 548,kf "_law_each" "_law_each" (top 43) "law_haltline_k11_whole_turned_and_doubled" 481 254,kn "law" "law" 551 200 1 3 256 181 554)
noncomputable def HK (P:Params) :Obj:=kf "law" "law" (top 44) "law_haltline_k11_whole_turned_and_doubled" 481 259
noncomputable def KK (P:Params):W.Frag:=
 (nat_lit 3,(Be P).1) ::
 (nat_lit 23,(Be P).2.1) ::
 (nat_lit 24,(Be P).2.2.1) ::
 (nat_lit 36,(Be P).2.2.2.1) ::
 (nat_lit 37,(Be P).2.2.2.2.1) ::
 (nat_lit 48,(Be P).2.2.2.2.2.1) ::
 (nat_lit 49,(Be P).2.2.2.2.2.2.1) ::
 (nat_lit 60,(Be P).2.2.2.2.2.2.2) ::
 (nat_lit 61,(Bf P).1) ::
 (nat_lit 76,(Bf P).2.1) ::
 (nat_lit 77,(Bf P).2.2.1) ::
 (nat_lit 83,(Bf P).2.2.2.1) ::
 (nat_lit 84,(Bf P).2.2.2.2.1) ::
 (nat_lit 90,(Bf P).2.2.2.2.2.1) ::
 (nat_lit 91,(Bf P).2.2.2.2.2.2.1) ::
 (nat_lit 93,(Bf P).2.2.2.2.2.2.2) ::
 (nat_lit 94,(Bg P).1) ::
 (nat_lit 104,(Bg P).2.1) ::
 (nat_lit 105,(Bg P).2.2.1) ::
 (nat_lit 111,(Bg P).2.2.2.1) ::
 (nat_lit 112,(Bg P).2.2.2.2.1) ::
 (nat_lit 118,(Bg P).2.2.2.2.2.1) ::
 (nat_lit 119,(Bg P).2.2.2.2.2.2.1) ::
 (nat_lit 123,(Bg P).2.2.2.2.2.2.2) ::
 (nat_lit 124,(Bh P).1) ::
 (nat_lit 130,(Bh P).2.1) ::
 (nat_lit 131,(Bh P).2.2.1) ::
 (nat_lit 135,(Bh P).2.2.2.1) ::
 (nat_lit 136,(Bh P).2.2.2.2.1) ::
 (nat_lit 142,(Bh P).2.2.2.2.2.1) ::
 (nat_lit 143,(Bh P).2.2.2.2.2.2.1) ::
 (nat_lit 147,(Bh P).2.2.2.2.2.2.2) ::
 (nat_lit 148,(Bi P).1) ::
 (nat_lit 152,(Bi P).2.1) ::
 (nat_lit 153,(Bi P).2.2.1) ::
 (nat_lit 157,(Bi P).2.2.2.1) ::
 (nat_lit 158,(Bi P).2.2.2.2.1) ::
 (nat_lit 164,(Bi P).2.2.2.2.2.1) ::
 (nat_lit 165,(Bi P).2.2.2.2.2.2.1) ::
 (nat_lit 169,(Bi P).2.2.2.2.2.2.2) ::
 (nat_lit 170,(Bj P).1) ::
 (nat_lit 174,(Bj P).2.1) ::
 (nat_lit 175,(Bj P).2.2.1) ::
 (nat_lit 179,(Bj P).2.2.2.1) ::
 (nat_lit 180,(Bj P).2.2.2.2.1) ::
 (nat_lit 186,(Bj P).2.2.2.2.2.1) ::
 (nat_lit 187,(Bj P).2.2.2.2.2.2.1) ::
 (nat_lit 191,(Bj P).2.2.2.2.2.2.2) ::
 (nat_lit 192,(kk6 P).1) ::
 (nat_lit 196,(kk6 P).2.1) ::
 (nat_lit 197,(kk6 P).2.2.1) ::
 (nat_lit 201,(kk6 P).2.2.2.1) ::
 (nat_lit 202,(kk6 P).2.2.2.2.1) ::
 (nat_lit 208,(kk6 P).2.2.2.2.2.1) ::
 (nat_lit 209,(kk6 P).2.2.2.2.2.2.1) ::
 (nat_lit 215,(kk6 P).2.2.2.2.2.2.2) ::
 (nat_lit 216,(Bk P).1) ::
 (nat_lit 220,(Bk P).2.1) ::
 (nat_lit 221,(Bk P).2.2.1) ::
 (nat_lit 227,(Bk P).2.2.2.1) ::
 (nat_lit 228,(Bk P).2.2.2.2.1) ::
 (nat_lit 232,(Bk P).2.2.2.2.2.1) ::
 (nat_lit 233,(Bk P).2.2.2.2.2.2.1) ::
 (nat_lit 237,(Bk P).2.2.2.2.2.2.2) ::
 (nat_lit 238,(Bl P).1) ::
 (nat_lit 242,(Bl P).2.1) ::
 (nat_lit 243,(Bl P).2.2.1) ::
 (nat_lit 249,(Bl P).2.2.2.1) ::
 (nat_lit 250,(Bl P).2.2.2.2.1) ::
 (nat_lit 254,(Bl P).2.2.2.2.2.1) ::
 (nat_lit 255,(Bl P).2.2.2.2.2.2.1) ::
 (nat_lit 259,(Bl P).2.2.2.2.2.2.2) ::
 (nat_lit 260,(HK P)) ::
 []
end K11
open PySem PySem.W PyProof.Rows
set_option maxRecDepth 100000 in
set_option maxHeartbeats 0 in
theorem PySem.Challenge.cw_haltline_k11_whole_turned_and_doubled_holds : PySem.Challenge.rw_haltline_k11_whole_turned_and_doubled.Holds := by
 w_on; o_law; (o_head (kHook K11.KK (3 :: 23 :: 24 :: 36 :: 37 :: 48 :: 49 :: 60 :: 61 :: 76 :: 77 :: 83 :: 84 :: 90 :: 91 :: 93 :: 94 :: 104 :: 105 :: 111 :: 112 :: 118 :: 119 :: 123 :: 124 :: 130 :: 131 :: 135 :: 136 :: 142 :: 143 :: 147 :: 148 :: 152 :: 153 :: 157 :: 158 :: 164 :: 165 :: 169 :: 170 :: 174 :: 175 :: 179 :: 180 :: 186 :: 187 :: 191 :: 192 :: 196 :: 197 :: 201 :: 202 :: 208 :: 209 :: 215 :: 216 :: 220 :: 221 :: 227 :: 228 :: 232 :: 233 :: 237 :: 238 :: 242 :: 243 :: 249 :: 250 :: 254 :: 255 :: 259 :: 260 :: []) (fun _=>by kernel_rfl))); (case hw=>w_witness2)
 k_fill
 refine L2.xy 7 (l:=PySem.Challenge.rw_haltline_k11_whole_turned_and_doubled) ⟨rfl,by decide,by decide⟩ rfl rfl (fun w h Y=>PySem.W.kIn_of Y) ?F
 case F=>
  intro w mg fa h KX G hmg
  refine' K11.BC KX G hmg ?_ ?_ ?_ ?_ ?_ ?_ ?_ ?_ ?_ ?_ ?_ ?_ ?_ ?_ ?_ ?_ ?_ ?_ ?_ ?_ ?_ ?_ ?_ ?_ ?_ ?_ ?_ ?_ ?_ ?_ ?_ ?_ ?_ ?_ ?_ ?_ ?_ ?_ ?_ ?_ ?_ ?_ ?_ ?_ ?_ ?_ ?_ ?_ ?_ ?_ ?_ ?_ ?_ ?_
  all_goals first | k_is | exact ⟨_,by k_is,_,_,_,by k_is,by k_is⟩ | exact ⟨_,_,_,_,_,_,_,_,_,_,_,_,_,_,_,_,by k_is,by kernel_rfl,by k_is,by kernel_rfl⟩ | rfl | k_exc | decide | skip
#print axioms PySem.Challenge.cw_haltline_k11_whole_turned_and_doubled_holds
